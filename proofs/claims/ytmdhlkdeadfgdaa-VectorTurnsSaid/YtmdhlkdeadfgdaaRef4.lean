/- What the document's own vectors answer. -/
import Derived.Test.YtmdhlkdeadfgdaaQuot
import Derived.Test.YtmdhlkdeadfgdaaRef2B
namespace Go.Proofs.Ytmdhlkdeadfgdaa
open Go.RowKit
set_option linter.unusedVariables false
set_option linter.unusedSimpArgs false
set_option maxHeartbeats 2000000

/-- A point as the program's struct. -/
abbrev P2 (x y : Int) : Value := .agg #[.int .i64 x, .int .i64 y]
/-- A point is near. -/
def nearB (x y : Int) : Bool := decide (-1073741824 ≤ x ∧ x ≤ 1073741824 ∧ -1073741824 ≤ y ∧ y ≤ 1073741824)
theorem nearB_iff {x y : Int} : nearB x y = true ↔ (-1073741824 ≤ x ∧ x ≤ 1073741824) ∧ (-1073741824 ≤ y ∧ y ≤ 1073741824) := by
  unfold nearB; simp; omega
theorem nearB_no {x y : Int} (h : nearB x y = false) : ¬ ((-1073741824 ≤ x ∧ x ≤ 1073741824) ∧ (-1073741824 ≤ y ∧ y ≤ 1073741824)) := by
  intro g; rw [nearB_iff.2 g] at h; cases h
/-- Products of near numbers. -/
theorem prod_near (a b A B : Int) (ha : -A ≤ a ∧ a ≤ A) (hb : -B ≤ b ∧ b ≤ B) (hA : 0 ≤ A) (hB : 0 ≤ B) : -(A * B) ≤ a * b ∧ a * b ≤ A * B := by
  have h1 : (a * b).natAbs = a.natAbs * b.natAbs := Int.natAbs_mul a b
  have h2 := Nat.mul_le_mul (show a.natAbs ≤ A.toNat by omega) (show b.natAbs ≤ B.toNat by omega)
  rw [← h1] at h2
  have h3 : ((A.toNat * B.toNat : Nat) : Int) = A * B := by rw [Int.natCast_mul, Int.toNat_of_nonneg hA, Int.toNat_of_nonneg hB]
  generalize a * b = p at *
  generalize A * B = q at *
  generalize A.toNat * B.toNat = r at *
  omega
theorem prod_30 (a b : Int) (ha : -1073741824 ≤ a ∧ a ≤ 1073741824) (hb : -1073741824 ≤ b ∧ b ≤ 1073741824) : -1152921504606846976 ≤ a * b ∧ a * b ≤ 1152921504606846976 :=
  prod_near a b 1073741824 1073741824 ha hb (by omega) (by omega)
theorem prod_31 (a b : Int) (ha : -2147483648 ≤ a ∧ a ≤ 2147483648) (hb : -1073741824 ≤ b ∧ b ≤ 1073741824) : -2305843009213693952 ≤ a * b ∧ a * b ≤ 2305843009213693952 :=
  prod_near a b 2147483648 1073741824 ha hb (by omega) (by omega)

theorem r4near_any (x y : Int) (w : World) :
    Calls Try.prog 9 #[P2 x y] w fun e w' => e = .returned (.bool (nearB x y)) ∧ Below w.heap.size w w' := by
  obtain ⟨b, hb⟩ : ∃ b, nearB x y = b := ⟨_, rfl⟩
  rw [hb]
  have HB := Lib.hid hb
  by_cases h1 : -1073741824 ≤ x
  · by_cases h2 : x ≤ 1073741824
    · by_cases h3 : -1073741824 ≤ y
      · by_cases h4 : y ≤ 1073741824
        all_goals
          have FIN := Lib.hid (show decide (y ≤ 1073741824) = b by rw [← hb]; unfold nearB; rw [decide_eq_decide]; omega)
          clear hb
          go_enter Try.func9, Try.ntmps9
          go_wp2
          go_ret
          exact ⟨by rw [← FIN.out]; simp [*], (Below.refl _ _).alloc (by simp) _⟩
      · have FIN := Lib.hid (show false = b by rw [← hb]; unfold nearB; simp; omega)
        clear hb
        go_enter Try.func9, Try.ntmps9
        go_wp2
        go_ret
        exact ⟨by rw [← FIN.out]; rfl, (Below.refl _ _).alloc (by simp) _⟩
    · have FIN := Lib.hid (show false = b by rw [← hb]; unfold nearB; simp; omega)
      clear hb
      go_enter Try.func9, Try.ntmps9
      go_wp2
      go_ret
      exact ⟨by rw [← FIN.out]; rfl, (Below.refl _ _).alloc (by simp) _⟩
  · have FIN := Lib.hid (show false = b by rw [← hb]; unfold nearB; simp; omega)
    clear hb
    go_enter Try.func9, Try.ntmps9
    go_wp2
    go_ret
    exact ⟨by rw [← FIN.out]; rfl, (Below.refl _ _).alloc (by simp) _⟩

theorem r4add_any (x y u v : Int) (w : World) (hx : -2147483648 ≤ x ∧ x ≤ 2147483648) (hy : -2147483648 ≤ y ∧ y ≤ 2147483648) (hu : -2147483648 ≤ u ∧ u ≤ 2147483648) (hv : -2147483648 ≤ v ∧ v ≤ 2147483648) :
    Calls Try.prog 13 #[P2 x y, P2 u v] w fun e w' => e = .returned (P2 (x + u) (y + v)) ∧ Below w.heap.size w w' := by
  go_enter Try.func13, Try.ntmps13
  go_wp2
  refine bodyPost_ret (by simp [results, Try.results13, go_sem] <;> rfl) rfl ⟨?_, ?_⟩
  · rfl
  · repeat (first | exact Below.refl _ _ | refine Below.setCell ?_ (by simp; try omega) _ | refine Below.alloc ?_ (by simp; try omega) _)

theorem r4sub_any (x y u v : Int) (w : World) (hx : -2147483648 ≤ x ∧ x ≤ 2147483648) (hy : -2147483648 ≤ y ∧ y ≤ 2147483648) (hu : -2147483648 ≤ u ∧ u ≤ 2147483648) (hv : -2147483648 ≤ v ∧ v ≤ 2147483648) :
    Calls Try.prog 15 #[P2 x y, P2 u v] w fun e w' => e = .returned (P2 (x - u) (y - v)) ∧ Below w.heap.size w w' := by
  go_enter Try.func15, Try.ntmps15
  go_wp2
  refine bodyPost_ret (by simp [results, Try.results15, go_sem] <;> rfl) rfl ⟨?_, ?_⟩
  · rfl
  · repeat (first | exact Below.refl _ _ | refine Below.setCell ?_ (by simp; try omega) _ | refine Below.alloc ?_ (by simp; try omega) _)

theorem r4neg_any (x y : Int) (w : World) (hx : -2147483648 ≤ x ∧ x ≤ 2147483648) (hy : -2147483648 ≤ y ∧ y ≤ 2147483648) :
    Calls Try.prog 17 #[P2 x y] w fun e w' => e = .returned (P2 (-x) (-y)) ∧ Below w.heap.size w w' := by
  go_enter Try.func17, Try.ntmps17
  go_wp2
  refine bodyPost_ret (by simp [results, Try.results17, go_sem] <;> rfl) rfl ⟨?_, ?_⟩
  · rfl
  · repeat (first | exact Below.refl _ _ | refine Below.setCell ?_ (by simp; try omega) _ | refine Below.alloc ?_ (by simp; try omega) _)

theorem r4left_any (x y : Int) (w : World) (hx : -2147483648 ≤ x ∧ x ≤ 2147483648) (hy : -2147483648 ≤ y ∧ y ≤ 2147483648) :
    Calls Try.prog 19 #[P2 x y] w fun e w' => e = .returned (P2 (-y) x) ∧ Below w.heap.size w w' := by
  go_enter Try.func19, Try.ntmps19
  go_wp2
  refine bodyPost_ret (by simp [results, Try.results19, go_sem] <;> rfl) rfl ⟨?_, ?_⟩
  · rfl
  · repeat (first | exact Below.refl _ _ | refine Below.setCell ?_ (by simp; try omega) _ | refine Below.alloc ?_ (by simp; try omega) _)

theorem r4dot_any (x y u v : Int) (w : World) (hx : -1073741824 ≤ x ∧ x ≤ 1073741824) (hy : -1073741824 ≤ y ∧ y ≤ 1073741824) (hu : -1073741824 ≤ u ∧ u ≤ 1073741824) (hv : -1073741824 ≤ v ∧ v ≤ 1073741824) :
    Calls Try.prog 21 #[P2 x y, P2 u v] w fun e w' => e = .returned (.int .i64 (x * u + y * v)) ∧ Below w.heap.size w w' := by
  have p1 := prod_30 x u hx hu
  have p2 := prod_30 y v hy hv
  obtain ⟨p, hp⟩ : ∃ p, x * u = p := ⟨_, rfl⟩
  obtain ⟨q, hq⟩ : ∃ q, y * v = q := ⟨_, rfl⟩
  rw [hp, hq]
  rw [hp] at p1
  rw [hq] at p2
  have e1 : IntKind.i64.wrap p = p := IntWalk.i64_in _ (by omega)
  have e2 : IntKind.i64.wrap q = q := IntWalk.i64_in _ (by omega)
  have e3 : IntKind.i64.wrap (p + q) = p + q := IntWalk.i64_in _ (by omega)
  go_enter Try.func21, Try.ntmps21
  go_wp2
  go_ret
  exact ⟨rfl, by repeat (first | exact Below.refl _ _ | refine Below.setCell ?_ (by simp; try omega) _ | refine Below.alloc ?_ (by simp; try omega) _)⟩

theorem r4cross_any (x y u v : Int) (w : World) (hx : -1073741824 ≤ x ∧ x ≤ 1073741824) (hy : -1073741824 ≤ y ∧ y ≤ 1073741824) (hu : -1073741824 ≤ u ∧ u ≤ 1073741824) (hv : -1073741824 ≤ v ∧ v ≤ 1073741824) :
    Calls Try.prog 23 #[P2 x y, P2 u v] w fun e w' => e = .returned (.int .i64 (x * v - y * u)) ∧ Below w.heap.size w w' := by
  have p1 := prod_30 x v hx hv
  have p2 := prod_30 y u hy hu
  obtain ⟨p, hp⟩ : ∃ p, x * v = p := ⟨_, rfl⟩
  obtain ⟨q, hq⟩ : ∃ q, y * u = q := ⟨_, rfl⟩
  rw [hp, hq]
  rw [hp] at p1
  rw [hq] at p2
  have e1 : IntKind.i64.wrap p = p := IntWalk.i64_in _ (by omega)
  have e2 : IntKind.i64.wrap q = q := IntWalk.i64_in _ (by omega)
  have e3 : IntKind.i64.wrap (p - q) = p - q := IntWalk.i64_in _ (by omega)
  go_enter Try.func23, Try.ntmps23
  go_wp2
  go_ret
  exact ⟨rfl, by repeat (first | exact Below.refl _ _ | refine Below.setCell ?_ (by simp; try omega) _ | refine Below.alloc ?_ (by simp; try omega) _)⟩

/-- The length of a vector, rounded down. -/
def lenN (x y : Int) : Nat := rt (x * x + y * y).toNat
theorem sq_nn (x : Int) : 0 ≤ x * x := by rw [← Int.natAbs_mul_self]; exact Int.natCast_nonneg _
theorem sq_near (x : Int) (h : -1073741824 ≤ x ∧ x ≤ 1073741824) : 0 ≤ x * x ∧ x * x ≤ 1152921504606846976 := by
  exact ⟨sq_nn x, (prod_30 x x h h).2⟩
theorem lenN_bd (x y : Int) (hx : -1073741824 ≤ x ∧ x ≤ 1073741824) (hy : -1073741824 ≤ y ∧ y ≤ 1073741824) : lenN x y ≤ 1518500249 := by
  have h1 := sq_near x hx
  have h2 := sq_near y hy
  unfold lenN
  have : rt (x * x + y * y).toNat < 1518500250 := rt_lt (by omega)
  omega
theorem lenN_0 (x y : Int) : lenN x y = 0 ↔ x = 0 ∧ y = 0 := by
  have h1 := sq_nn x
  have h2 := sq_nn y
  constructor
  · intro h
    unfold lenN at h
    have s := (rt_spec (x * x + y * y).toNat).2
    rw [h] at s
    have h3 : x * x = 0 := by omega
    have h4 : y * y = 0 := by omega
    exact ⟨by rcases Int.mul_eq_zero.1 h3 with g | g <;> exact g, by rcases Int.mul_eq_zero.1 h4 with g | g <;> exact g⟩
  · rintro ⟨rfl, rfl⟩; rfl

theorem r4len_any (x y : Int) (w : World) (hx : -1073741824 ≤ x ∧ x ≤ 1073741824) (hy : -1073741824 ≤ y ∧ y ≤ 1073741824) :
    Calls Try.prog 25 #[P2 x y] w fun e w' => e = .returned (.int .i64 (lenN x y : Nat)) ∧ Below w.heap.size w w' := by
  have s1 := sq_near x hx
  have s2 := sq_near y hy
  have lb := lenN_bd x y hx hy
  obtain ⟨N, hN⟩ := Int.eq_ofNat_of_zero_le (show 0 ≤ x * x + y * y by omega)
  obtain ⟨L, hL⟩ : ∃ L, lenN x y = L := ⟨_, rfl⟩
  have HL := Lib.hid (show rt N = L by rw [← hL]; unfold lenN; rw [hN]; rfl)
  have HN := Lib.hid hN
  rw [hL] at lb ⊢
  have e1 : IntKind.u64.wrap (N : Int) = (N : Int) := IntWalk.u64_in _ (by omega)
  have e2 : wrap64 (L : Int) = (L : Int) := by unfold wrap64; omega
  have e3 : IntKind.i64.wrap (L : Int) = (L : Int) := IntWalk.i64_in _ (by omega)
  have DOT := Lib.hid (fun w => r4dot_any x y x y w hx hy hx hy)
  have bN : N < 18446744073709551616 := by omega
  clear s1 s2 hN hL hx hy
  go_enter Try.func25, Try.ntmps25
  go_wp2_with fail
  refine (DOT.out _).mono ?_
  rintro e w1 ⟨rfl, h1⟩
  rw [HN.out]
  go_wp2_with fail
  refine (rsqrt_any N _ bN).mono ?_
  rintro e w2 ⟨rfl, h2⟩
  rw [HL.out]
  go_wp2
  go_ret
  have z1 := h1.size
  simp at z1
  exact ⟨rfl, (((Below.refl _ _).alloc (by simp) _).trans (h1.mono (by simp))).trans (h2.mono (by omega))⟩

/-- A vector of another length. -/
def normX (x y r : Int) : Int := if lenN x y = 0 then 0 else nearQ (x * r) (lenN x y : Nat)
def normY (x y r : Int) : Int := if lenN x y = 0 then 0 else nearQ (y * r) (lenN x y : Nat)
/-- On the way from one number to another one. -/
def alongQ (x u k n : Int) : Int := if n < 1 then x else x + nearQ ((u - x) * k) n
theorem near_q (a r n : Int) (hn : 1 ≤ n) (ha : -2147483648 ≤ a ∧ a ≤ 2147483648) (hr : -2147483648 ≤ r ∧ r ≤ 2147483648) : -4611686018427387904 ≤ nearQ (a * r) n ∧ nearQ (a * r) n ≤ 4611686018427387905 :=
  near_small (a * r) n 4611686018427387904 hn (by omega) (prod_near a r 2147483648 2147483648 ha hr (by omega) (by omega))

theorem r4norm_any (x y r : Int) (w : World) (hx : -1073741824 ≤ x ∧ x ≤ 1073741824) (hy : -1073741824 ≤ y ∧ y ≤ 1073741824) (hr : -2147483648 ≤ r ∧ r ≤ 2147483648) :
    Calls Try.prog 27 #[P2 x y, .int .i64 r] w fun e w' => e = .returned (P2 (normX x y r) (normY x y r)) ∧ Below w.heap.size w w' := by
  have lb := lenN_bd x y hx hy
  obtain ⟨L, hL⟩ : ∃ L, lenN x y = L := ⟨_, rfl⟩
  have LEN := Lib.hid (fun w => r4len_any x y w hx hy)
  unfold normX normY
  rw [hL] at lb LEN ⊢
  by_cases h0 : L = 0
  · subst h0
    rw [if_pos rfl, if_pos rfl]
    clear hL hx hy
    go_enter Try.func27, Try.ntmps27
    go_wp2_with fail
    refine (LEN.out _).mono ?_
    rintro e w1 ⟨rfl, h1⟩
    have z1 := h1.size
    simp at z1
    obtain ⟨hc, hf⟩ := bcell h1
    have hz : w.heap.size + 1 < w1.heap.size := by omega
    go_wp2
    refine bodyPost_ret (by simp [results, Try.results27, go_sem, hc, hf] <;> rfl) rfl ⟨?_, ?_⟩
    · rfl
    · refine Below.setCell (Below.setCell ((((Below.refl _ _).alloc (by simp) _).alloc (by simp) _).trans (h1.mono (by simp; omega))) (by simp) _) (by simp) _
  · rw [if_neg h0, if_neg h0]
    obtain ⟨X, hX⟩ : ∃ X, nearQ (x * r) (L : Nat) = X := ⟨_, rfl⟩
    obtain ⟨Y, hY⟩ : ∃ Y, nearQ (y * r) (L : Nat) = Y := ⟨_, rfl⟩
    have bX := near_q x r L (by omega) (by omega) hr
    have bY := near_q y r L (by omega) (by omega) hr
    rw [hX] at bX ⊢
    rw [hY] at bY ⊢
    have FX := Lib.hid (nearV_fit' x r L X (by omega) hX (by omega))
    have FY := Lib.hid (nearV_fit' y r L Y (by omega) hY (by omega))
    have q0 : ((L : Int) == 0) = false := by simp; omega
    have B1 := Lib.hid (show (-9223372036854775808 ≤ x ∧ x ≤ 9223372036854775807) ∧ (-9223372036854775808 ≤ y ∧ y ≤ 9223372036854775807) ∧ (-9223372036854775808 ≤ r ∧ r ≤ 9223372036854775807) ∧ (-9223372036854775808 ≤ (L : Int) ∧ (L : Int) ≤ 9223372036854775807) by omega)
    clear hL hx hy hX hY
    go_enter Try.func27, Try.ntmps27
    go_wp2_with fail
    refine (LEN.out _).mono ?_
    rintro e w1 ⟨rfl, h1⟩
    have z1 := h1.size
    simp at z1
    obtain ⟨c1, c2, c3, c4, f3, f4, hb1⟩ : w1.cell? ⟨w.heap.size, 0, none⟩ = some (.int .i64 x) ∧ w1.cell? ⟨w.heap.size, 1, none⟩ = some (.int .i64 y) ∧ w1.cell? ⟨w.heap.size + 1, 0, none⟩ = some (.int .i64 0) ∧ w1.cell? ⟨w.heap.size + 1, 1, none⟩ = some (.int .i64 0) ∧ w1.frozen? ⟨w.heap.size + 1, 0, none⟩ = false ∧ w1.frozen? ⟨w.heap.size + 1, 1, none⟩ = false ∧ Below w.heap.size w w1 :=
      ⟨(h1.cell (p := ⟨w.heap.size, 0, none⟩) (by simp; omega)).trans (by simp), (h1.cell (p := ⟨w.heap.size, 1, none⟩) (by simp; omega)).trans (by simp), (h1.cell (p := ⟨w.heap.size + 1, 0, none⟩) (by simp)).trans (by simp), (h1.cell (p := ⟨w.heap.size + 1, 1, none⟩) (by simp)).trans (by simp), (h1.frozen (p := ⟨w.heap.size + 1, 0, none⟩) (by simp)).trans (by simp), (h1.frozen (p := ⟨w.heap.size + 1, 1, none⟩) (by simp)).trans (by simp), (((Below.refl _ _).alloc (by simp) _).alloc (by simp) _).trans (h1.mono (by simp; omega))⟩
    clear h1
    go_wp2_with fail
    refine (rnear_any x r L _ B1.out.1 B1.out.2.2.1 B1.out.2.2.2).mono ?_
    rintro e w2 ⟨rfl, h2⟩
    rw [FX.out]
    have z2 := h2.size
    replace c2 := (h2.cell (p := ⟨w.heap.size, 1, none⟩) (by dsimp only; omega)).trans c2
    replace c3 := (h2.cell (p := ⟨w.heap.size + 1, 0, none⟩) (by dsimp only; omega)).trans c3
    replace c4 := (h2.cell (p := ⟨w.heap.size + 1, 1, none⟩) (by dsimp only; omega)).trans c4
    replace f3 := (h2.frozen (p := ⟨w.heap.size + 1, 0, none⟩) (by dsimp only; omega)).trans f3
    replace f4 := (h2.frozen (p := ⟨w.heap.size + 1, 1, none⟩) (by dsimp only; omega)).trans f4
    replace hb1 := hb1.trans (h2.mono (by omega))
    clear h2 c1
    go_wp2_with fail
    refine (rnear_any y r L _ B1.out.2.1 B1.out.2.2.1 B1.out.2.2.2).mono ?_
    rintro e w3 ⟨rfl, h3⟩
    rw [FY.out]
    have z3 := h3.size
    replace c3 := (h3.cell (p := ⟨w.heap.size + 1, 0, none⟩) (by dsimp only; omega)).trans c3
    replace c4 := (h3.cell (p := ⟨w.heap.size + 1, 1, none⟩) (by dsimp only; omega)).trans c4
    replace f3 := (h3.frozen (p := ⟨w.heap.size + 1, 0, none⟩) (by dsimp only; omega)).trans f3
    replace f4 := (h3.frozen (p := ⟨w.heap.size + 1, 1, none⟩) (by dsimp only; omega)).trans f4
    replace hb1 := hb1.trans (h3.mono (by omega))
    clear h3 c2
    go_wp2
    refine bodyPost_ret (by simp [results, Try.results27, go_sem, *] <;> rfl) rfl ⟨?_, ?_⟩
    · rfl
    · exact Below.setCell (Below.setCell hb1 (by simp) _) (by simp) _

theorem r4along_any (x y u v k n : Int) (w : World) (hx : -1073741824 ≤ x ∧ x ≤ 1073741824) (hy : -1073741824 ≤ y ∧ y ≤ 1073741824) (hu : -1073741824 ≤ u ∧ u ≤ 1073741824) (hv : -1073741824 ≤ v ∧ v ≤ 1073741824) (hk : -2147483648 ≤ k ∧ k ≤ 2147483648) (hn : -2147483648 ≤ n ∧ n ≤ 2147483648) :
    Calls Try.prog 29 #[P2 x y, P2 u v, .int .i64 k, .int .i64 n] w fun e w' => e = .returned (P2 (alongQ x u k n) (alongQ y v k n)) ∧ Below w.heap.size w w' := by
  unfold alongQ
  by_cases h0 : n < 1
  · have q0 : decide (n < 1) = true := by simpa using h0
    rw [if_pos h0, if_pos h0]
    clear h0
    go_enter Try.func29, Try.ntmps29
    go_wp2
    refine bodyPost_ret (by simp [results, Try.results29, go_sem] <;> rfl) rfl ⟨?_, ?_⟩
    · rfl
    · repeat (first | exact Below.refl _ _ | refine Below.setCell ?_ (by simp; try omega) _ | refine Below.alloc ?_ (by simp; try omega) _)
  · have q0 : decide (n < 1) = false := by simpa using h0
    rw [if_neg h0, if_neg h0]
    obtain ⟨d, hd⟩ : ∃ d, u - x = d := ⟨_, rfl⟩
    obtain ⟨e, he⟩ : ∃ e, v - y = e := ⟨_, rfl⟩
    rw [hd, he]
    obtain ⟨X, hX⟩ : ∃ X, nearQ (d * k) n = X := ⟨_, rfl⟩
    obtain ⟨Y, hY⟩ : ∃ Y, nearQ (e * k) n = Y := ⟨_, rfl⟩
    have bX := near_q d k n (by omega) (by omega) hk
    have bY := near_q e k n (by omega) (by omega) hk
    rw [hX] at bX ⊢
    rw [hY] at bY ⊢
    have FX := Lib.hid (nearV_fit' d k n X (by omega) hX (by omega))
    have FY := Lib.hid (nearV_fit' e k n Y (by omega) hY (by omega))
    have B1 := Lib.hid (show (-9223372036854775808 ≤ d ∧ d ≤ 9223372036854775807) ∧ (-9223372036854775808 ≤ e ∧ e ≤ 9223372036854775807) ∧ (-9223372036854775808 ≤ k ∧ k ≤ 9223372036854775807) ∧ (-9223372036854775808 ≤ n ∧ n ≤ 9223372036854775807) by omega)
    have e1 : IntKind.i64.wrap (u - x) = d := by rw [hd]; exact IntWalk.i64_in _ (by omega)
    have e2 : IntKind.i64.wrap (v - y) = e := by rw [he]; exact IntWalk.i64_in _ (by omega)
    have e3 : IntKind.i64.wrap (x + X) = x + X := IntWalk.i64_in _ (by omega)
    have e4 : IntKind.i64.wrap (y + Y) = y + Y := IntWalk.i64_in _ (by omega)
    clear hX hY h0
    go_enter Try.func29, Try.ntmps29
    go_wp2_with fail
    refine (rnear_any d k n _ B1.out.1 B1.out.2.2.1 B1.out.2.2.2).mono ?_
    rintro e0 w1 ⟨rfl, h1⟩
    rw [FX.out]
    have z1 := h1.size
    simp at z1
    obtain ⟨c1, c2, c5, c6, c3, c4, f3, f4, hb1⟩ : w1.cell? ⟨w.heap.size, 0, none⟩ = some (.int .i64 x) ∧ w1.cell? ⟨w.heap.size, 1, none⟩ = some (.int .i64 y) ∧ w1.cell? ⟨w.heap.size + 1, 0, none⟩ = some (.int .i64 u) ∧ w1.cell? ⟨w.heap.size + 1, 1, none⟩ = some (.int .i64 v) ∧ w1.cell? ⟨w.heap.size + 1 + 1, 0, none⟩ = some (.int .i64 0) ∧ w1.cell? ⟨w.heap.size + 1 + 1, 1, none⟩ = some (.int .i64 0) ∧ w1.frozen? ⟨w.heap.size + 1 + 1, 0, none⟩ = false ∧ w1.frozen? ⟨w.heap.size + 1 + 1, 1, none⟩ = false ∧ Below w.heap.size w w1 :=
      ⟨(h1.cell (p := ⟨w.heap.size, 0, none⟩) (by first | (simp; done) | (simp; omega))).trans (by simp [go_sem]), (h1.cell (p := ⟨w.heap.size, 1, none⟩) (by first | (simp; done) | (simp; omega))).trans (by simp [go_sem]), (h1.cell (p := ⟨w.heap.size + 1, 0, none⟩) (by first | (simp; done) | (simp; omega))).trans (by simp [go_sem]), (h1.cell (p := ⟨w.heap.size + 1, 1, none⟩) (by first | (simp; done) | (simp; omega))).trans (by simp [go_sem]), (h1.cell (p := ⟨w.heap.size + 1 + 1, 0, none⟩) (by first | (simp; done) | (simp; omega))).trans (by simp [go_sem]), (h1.cell (p := ⟨w.heap.size + 1 + 1, 1, none⟩) (by first | (simp; done) | (simp; omega))).trans (by simp [go_sem]), (h1.frozen (p := ⟨w.heap.size + 1 + 1, 0, none⟩) (by first | (simp; done) | (simp; omega))).trans (by simp [go_sem]), (h1.frozen (p := ⟨w.heap.size + 1 + 1, 1, none⟩) (by first | (simp; done) | (simp; omega))).trans (by simp [go_sem]), ((((Below.refl _ _).alloc (by simp) _).alloc (by simp) _).alloc (by simp; omega) _).trans (h1.mono (by simp; omega))⟩
    clear h1
    go_wp2_with fail
    refine (rnear_any e k n _ B1.out.2.1 B1.out.2.2.1 B1.out.2.2.2).mono ?_
    rintro e0 w2 ⟨rfl, h2⟩
    rw [FY.out]
    have z2 := h2.size
    replace c1 := (h2.cell (p := ⟨w.heap.size, 0, none⟩) (by dsimp only; omega)).trans c1
    replace c2 := (h2.cell (p := ⟨w.heap.size, 1, none⟩) (by dsimp only; omega)).trans c2
    replace c3 := (h2.cell (p := ⟨w.heap.size + 1 + 1, 0, none⟩) (by dsimp only; omega)).trans c3
    replace c4 := (h2.cell (p := ⟨w.heap.size + 1 + 1, 1, none⟩) (by dsimp only; omega)).trans c4
    replace f3 := (h2.frozen (p := ⟨w.heap.size + 1 + 1, 0, none⟩) (by dsimp only; omega)).trans f3
    replace f4 := (h2.frozen (p := ⟨w.heap.size + 1 + 1, 1, none⟩) (by dsimp only; omega)).trans f4
    replace hb1 := hb1.trans (h2.mono (by omega))
    clear h2 c5 c6
    go_wp2
    refine bodyPost_ret (by simp [results, Try.results29, go_sem, *] <;> rfl) rfl ⟨?_, ?_⟩
    · rfl
    · exact Below.setCell (Below.setCell hb1 (by simp; omega) _) (by simp; omega) _

end Go.Proofs.Ytmdhlkdeadfgdaa
