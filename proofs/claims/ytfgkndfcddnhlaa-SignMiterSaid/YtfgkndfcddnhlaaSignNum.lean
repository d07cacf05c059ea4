/- Signs of exact numbers: sides, triangles, quarters, miters. No program. -/
import Derived.Test.YtfgkndfcddnhlaaNum
namespace Go.Proofs.Ytfgkndfcddnhlaa
set_option linter.unusedVariables false
set_option linter.unusedSimpArgs false
set_option maxHeartbeats 2000000

/-- The exact cross of b less a, and c less a. -/
def crs (ax ay bx by' cx cy : Int) : Int := (bx - ax) * (cy - ay) - (by' - ay) * (cx - ax)
/-- Its sign, as wide numbers compare. -/
def sideV (ax ay bx by' px py : Int) : Int := cmpN ((bx - ax) * (py - ay)) ((by' - ay) * (px - ax))
theorem sideV_cases (ax ay bx by' px py : Int) :
    (sideV ax ay bx by' px py = -1 ∧ crs ax ay bx by' px py < 0) ∨ (sideV ax ay bx by' px py = 0 ∧ crs ax ay bx by' px py = 0) ∨ (sideV ax ay bx by' px py = 1 ∧ 0 < crs ax ay bx by' px py) := by
  unfold sideV cmpN crs
  split
  · exact .inl ⟨rfl, by omega⟩
  · split
    · exact .inr (.inl ⟨rfl, by omega⟩)
    · exact .inr (.inr ⟨rfl, by omega⟩)
theorem sideV_of (ax ay bx by' px py qx qy rx ry sx sy : Int) (h : crs ax ay bx by' px py = crs qx qy rx ry sx sy) : sideV ax ay bx by' px py = sideV qx qy rx ry sx sy := by
  rcases sideV_cases ax ay bx by' px py with h1 | h1 | h1 <;> rcases sideV_cases qx qy rx ry sx sy with h2 | h2 | h2 <;> omega
theorem sideV_neg (ax ay bx by' px py qx qy rx ry sx sy : Int) (h : crs ax ay bx by' px py = -crs qx qy rx ry sx sy) : sideV ax ay bx by' px py = -sideV qx qy rx ry sx sy := by
  rcases sideV_cases ax ay bx by' px py with h1 | h1 | h1 <;> rcases sideV_cases qx qy rx ry sx sy with h2 | h2 | h2 <;> omega
theorem crs_turn (ax ay bx by' cx cy : Int) : crs bx by' cx cy ax ay = crs ax ay bx by' cx cy := by unfold crs; grind
theorem crs_turn2 (ax ay bx by' cx cy : Int) : crs cx cy ax ay bx by' = crs ax ay bx by' cx cy := by unfold crs; grind
theorem crs_swap (ax ay bx by' cx cy : Int) : crs bx by' ax ay cx cy = -crs ax ay bx by' cx cy := by unfold crs; grind
theorem crs_last (ax ay bx by' cx cy : Int) : crs ax ay cx cy bx by' = -crs ax ay bx by' cx cy := by unfold crs; grind
theorem crs_one (ax ay cx cy : Int) : crs ax ay ax ay cx cy = 0 := by unfold crs; grind
theorem crs_back (ax ay bx by' : Int) : crs ax ay bx by' ax ay = 0 := by unfold crs; grind
theorem crs_end (ax ay bx by' : Int) : crs ax ay bx by' bx by' = 0 := by unfold crs; grind
theorem side_turn (ax ay bx by' cx cy : Int) : sideV bx by' cx cy ax ay = sideV ax ay bx by' cx cy := sideV_of _ _ _ _ _ _ _ _ _ _ _ _ (crs_turn _ _ _ _ _ _)
theorem side_turn2 (ax ay bx by' cx cy : Int) : sideV cx cy ax ay bx by' = sideV ax ay bx by' cx cy := sideV_of _ _ _ _ _ _ _ _ _ _ _ _ (crs_turn2 _ _ _ _ _ _)
theorem side_swap (ax ay bx by' cx cy : Int) : sideV bx by' ax ay cx cy = -sideV ax ay bx by' cx cy := sideV_neg _ _ _ _ _ _ _ _ _ _ _ _ (crs_swap _ _ _ _ _ _)
theorem side_last (ax ay bx by' cx cy : Int) : sideV ax ay cx cy bx by' = -sideV ax ay bx by' cx cy := sideV_neg _ _ _ _ _ _ _ _ _ _ _ _ (crs_last _ _ _ _ _ _)
theorem side_0 {ax ay bx by' cx cy : Int} (h : crs ax ay bx by' cx cy = 0) : sideV ax ay bx by' cx cy = 0 := by
  rcases sideV_cases ax ay bx by' cx cy with h1 | h1 | h1 <;> omega
theorem side_one (ax ay cx cy : Int) : sideV ax ay ax ay cx cy = 0 := side_0 (crs_one _ _ _ _)
theorem side_back (ax ay bx by' : Int) : sideV ax ay bx by' ax ay = 0 := side_0 (crs_back _ _ _ _)

/-- p lies in the box of a and b, by one number. -/
def In1 (a b p : Int) : Prop := (a ≤ p ∧ p ≤ b) ∨ (b ≤ p ∧ p ≤ a)
instance (a b p : Int) : Decidable (In1 a b p) := by unfold In1; infer_instance
/-- p lies between a and b. -/
def Btw (ax ay bx by' px py : Int) : Prop := crs ax ay bx by' px py = 0 ∧ In1 ax bx px ∧ In1 ay by' py
instance (ax ay bx by' px py : Int) : Decidable (Btw ax ay bx by' px py) := by unfold Btw; infer_instance
def betweenV (ax ay bx by' px py : Int) : Bool := decide (Btw ax ay bx by' px py)
/-- p lies in a triangle. -/
def Wth (ax ay bx by' cx cy px py : Int) : Prop :=
  if crs ax ay bx by' cx cy = 0 then Btw ax ay bx by' px py ∨ Btw bx by' cx cy px py ∨ Btw cx cy ax ay px py
  else (0 ≤ crs ax ay bx by' px py ∧ 0 ≤ crs bx by' cx cy px py ∧ 0 ≤ crs cx cy ax ay px py) ∨ (crs ax ay bx by' px py ≤ 0 ∧ crs bx by' cx cy px py ≤ 0 ∧ crs cx cy ax ay px py ≤ 0)
instance (ax ay bx by' cx cy px py : Int) : Decidable (Wth ax ay bx by' cx cy px py) := by unfold Wth; infer_instance
def withinV (ax ay bx by' cx cy px py : Int) : Bool := decide (Wth ax ay bx by' cx cy px py)

theorem in1_swap (a b p : Int) : In1 b a p ↔ In1 a b p := by unfold In1; omega
theorem btw_swap (ax ay bx by' px py : Int) : Btw bx by' ax ay px py ↔ Btw ax ay bx by' px py := by
  unfold Btw; rw [crs_swap, in1_swap, in1_swap ay by']
  constructor <;> rintro ⟨h1, h2, h3⟩ <;> exact ⟨by omega, h2, h3⟩
theorem between_swap (ax ay bx by' px py : Int) : betweenV bx by' ax ay px py = betweenV ax ay bx by' px py := by
  unfold betweenV; rw [decide_eq_decide]; exact btw_swap _ _ _ _ _ _
theorem within_turn (ax ay bx by' cx cy px py : Int) : withinV bx by' cx cy ax ay px py = withinV ax ay bx by' cx cy px py := by
  unfold withinV; rw [decide_eq_decide]; unfold Wth; rw [crs_turn]
  split
  · constructor
    · rintro (h | h | h)
      · exact .inr (.inl h)
      · exact .inr (.inr h)
      · exact .inl h
    · rintro (h | h | h)
      · exact .inr (.inr h)
      · exact .inl h
      · exact .inr (.inl h)
  · omega
theorem within_swap (ax ay bx by' cx cy px py : Int) : withinV cx cy bx by' ax ay px py = withinV ax ay bx by' cx cy px py := by
  unfold withinV; rw [decide_eq_decide]; unfold Wth
  have e : crs cx cy bx by' ax ay = -crs ax ay bx by' cx cy := by unfold crs; grind
  have e1 := crs_swap bx by' cx cy px py
  have e2 := crs_swap ax ay bx by' px py
  have e3 := crs_swap cx cy ax ay px py
  rw [btw_swap bx by' cx cy, btw_swap ax ay bx by', btw_swap cx cy ax ay]
  by_cases h : crs ax ay bx by' cx cy = 0
  · rw [if_pos h, if_pos (by omega)]
    constructor
    · rintro (h | h | h)
      · exact .inr (.inl h)
      · exact .inl h
      · exact .inr (.inr h)
    · rintro (h | h | h)
      · exact .inr (.inl h)
      · exact .inl h
      · exact .inr (.inr h)
  · rw [if_neg h, if_neg (by omega)]; omega
theorem btw_first (ax ay bx by' : Int) : Btw ax ay bx by' ax ay := ⟨crs_back _ _ _ _, by unfold In1; omega, by unfold In1; omega⟩
theorem within_a (ax ay bx by' cx cy : Int) : withinV ax ay bx by' cx cy ax ay = true := by
  unfold withinV; rw [decide_eq_true_iff]; unfold Wth
  split
  · exact .inl (btw_first _ _ _ _)
  · rw [crs_back, crs_end, crs_turn]; omega
theorem within_b (ax ay bx by' cx cy : Int) : withinV ax ay bx by' cx cy bx by' = true := by
  rw [← within_turn]; exact within_a _ _ _ _ _ _
theorem within_c (ax ay bx by' cx cy : Int) : withinV ax ay bx by' cx cy cx cy = true := by
  rw [← within_turn, ← within_turn]; exact within_a _ _ _ _ _ _
/-- A quotient's sign. -/
theorem sgn_quot {Y e D f : Int} (h : Y * e = D * f) (hf : (0 < e ∧ 0 ≤ f) ∨ (e < 0 ∧ f ≤ 0)) : (0 < D → 0 ≤ Y) ∧ (D < 0 → Y ≤ 0) := by
  constructor
  · intro hD
    rcases hf with ⟨h1, h2⟩ | ⟨h1, h2⟩
    · have g := Int.mul_nonneg (Int.le_of_lt hD) h2
      by_cases hY : 0 ≤ Y
      · exact hY
      · have := Int.mul_neg_of_neg_of_pos (show Y < 0 by omega) h1; omega
    · have g := Int.mul_nonpos_of_nonneg_of_nonpos (Int.le_of_lt hD) h2
      by_cases hY : 0 ≤ Y
      · exact hY
      · have := Int.mul_pos_of_neg_of_neg (show Y < 0 by omega) h1; omega
  · intro hD
    rcases hf with ⟨h1, h2⟩ | ⟨h1, h2⟩
    · have g := Int.mul_nonpos_of_nonpos_of_nonneg (Int.le_of_lt hD) h2
      by_cases hY : Y ≤ 0
      · exact hY
      · have := Int.mul_pos (show 0 < Y by omega) h1; omega
    · have g := Int.mul_nonneg_of_nonpos_of_nonpos (Int.le_of_lt hD) h2
      by_cases hY : Y ≤ 0
      · exact hY
      · have := Int.mul_neg_of_pos_of_neg (show 0 < Y by omega) h1; omega
theorem wth_btw {ax ay bx by' cx cy px py : Int} (h : Btw ax ay bx by' px py) : Wth ax ay bx by' cx cy px py := by
  unfold Wth
  by_cases hD : crs ax ay bx by' cx cy = 0
  · rw [if_pos hD]; exact .inl h
  · rw [if_neg hD]
    obtain ⟨h0, hx, hy⟩ := h
    have y1 : crs bx by' cx cy px py * (bx - ax) = crs ax ay bx by' cx cy * (bx - px) + crs ax ay bx by' px py * (cx - bx) := by unfold crs; grind
    have y2 : crs bx by' cx cy px py * (by' - ay) = crs ax ay bx by' cx cy * (by' - py) + crs ax ay bx by' px py * (cy - by') := by unfold crs; grind
    have z1 : crs cx cy ax ay px py * (bx - ax) = crs ax ay bx by' cx cy * (px - ax) - crs ax ay bx by' px py * (cx - ax) := by unfold crs; grind
    have z2 : crs cx cy ax ay px py * (by' - ay) = crs ax ay bx by' cx cy * (py - ay) - crs ax ay bx by' px py * (cy - ay) := by unfold crs; grind
    rw [h0, Int.zero_mul, Int.add_zero] at y1 y2
    rw [h0, Int.zero_mul, Int.sub_zero] at z1 z2
    rw [h0]
    have key : ((0 < crs ax ay bx by' cx cy → 0 ≤ crs bx by' cx cy px py) ∧ (crs ax ay bx by' cx cy < 0 → crs bx by' cx cy px py ≤ 0)) ∧ ((0 < crs ax ay bx by' cx cy → 0 ≤ crs cx cy ax ay px py) ∧ (crs ax ay bx by' cx cy < 0 → crs cx cy ax ay px py ≤ 0)) := by
      unfold In1 at hx hy
      by_cases e : bx - ax = 0
      · by_cases e2 : by' - ay = 0
        · exfalso
          apply hD
          unfold crs
          rw [e, e2, Int.zero_mul, Int.zero_mul]; rfl
        · exact ⟨sgn_quot y2 (by omega), sgn_quot z2 (by omega)⟩
      · exact ⟨sgn_quot y1 (by omega), sgn_quot z1 (by omega)⟩
    by_cases hp : 0 < crs ax ay bx by' cx cy
    · exact .inl ⟨Int.le_refl _, key.1.1 hp, key.2.1 hp⟩
    · exact .inr ⟨Int.le_refl _, key.1.2 (by omega), key.2.2 (by omega)⟩
theorem within_btw1 {ax ay bx by' cx cy px py : Int} (h : withinV ax ay bx by' cx cy px py = false) : betweenV ax ay bx by' px py = false := by
  unfold betweenV; rw [decide_eq_false_iff_not]; intro g
  unfold withinV at h; rw [decide_eq_false_iff_not] at h; exact h (wth_btw g)
theorem within_btw2 {ax ay bx by' cx cy px py : Int} (h : withinV ax ay bx by' cx cy px py = false) : betweenV bx by' cx cy px py = false :=
  within_btw1 (by rw [within_turn]; exact h)
theorem within_btw3 {ax ay bx by' cx cy px py : Int} (h : withinV ax ay bx by' cx cy px py = false) : betweenV cx cy ax ay px py = false :=
  within_btw1 (by rw [← within_turn]; exact h)
/-- What is shifted. -/
theorem crs_shift (ax ay bx by' cx cy s t : Int) : crs (ax + s) (ay + t) (bx + s) (by' + t) (cx + s) (cy + t) = crs ax ay bx by' cx cy := by unfold crs; grind
theorem side_shift (ax ay bx by' cx cy s t : Int) : sideV (ax + s) (ay + t) (bx + s) (by' + t) (cx + s) (cy + t) = sideV ax ay bx by' cx cy := sideV_of _ _ _ _ _ _ _ _ _ _ _ _ (crs_shift _ _ _ _ _ _ _ _)
theorem in1_shift (a b p s : Int) : In1 (a + s) (b + s) (p + s) ↔ In1 a b p := by unfold In1; omega
theorem btw_shift (ax ay bx by' cx cy s t : Int) : Btw (ax + s) (ay + t) (bx + s) (by' + t) (cx + s) (cy + t) ↔ Btw ax ay bx by' cx cy := by
  unfold Btw; rw [crs_shift, in1_shift, in1_shift]
theorem between_shift (ax ay bx by' cx cy s t : Int) : betweenV (ax + s) (ay + t) (bx + s) (by' + t) (cx + s) (cy + t) = betweenV ax ay bx by' cx cy := by
  unfold betweenV; rw [decide_eq_decide]; exact btw_shift _ _ _ _ _ _ _ _
theorem within_shift (ax ay bx by' cx cy px py s t : Int) : withinV (ax + s) (ay + t) (bx + s) (by' + t) (cx + s) (cy + t) (px + s) (py + t) = withinV ax ay bx by' cx cy px py := by
  unfold withinV; rw [decide_eq_decide]; unfold Wth; simp only [crs_shift, btw_shift]

/-- In which quarter a vector is. -/
def quarterV (x y : Int) : Int := if 0 < x ∧ 0 ≤ y then 0 else if 0 < y ∧ x ≤ 0 then 1 else if x < 0 ∧ y ≤ 0 then 2 else if y < 0 ∧ 0 ≤ x then 3 else 0
def crossN (x y u v : Int) : Int := x * v - y * u
def dotN (x y u v : Int) : Int := x * u + y * v
def beforeV (x y u v : Int) : Bool := decide (quarterV x y < quarterV u v ∨ (quarterV x y = quarterV u v ∧ 0 < crossN x y u v))
theorem quarter_bd (x y : Int) : 0 ≤ quarterV x y ∧ quarterV x y ≤ 3 := by
  unfold quarterV; repeat' split
  all_goals omega
theorem quarter_left (x y : Int) (h : ¬ (x = 0 ∧ y = 0)) : quarterV (-y) x = (quarterV x y + 1) % 4 := by
  unfold quarterV; repeat' split
  all_goals omega
theorem quarter_neg (x y : Int) (h : ¬ (x = 0 ∧ y = 0)) : quarterV (-x) (-y) = (quarterV x y + 2) % 4 := by
  unfold quarterV; repeat' split
  all_goals omega
theorem sq_pos' (x : Int) (h : x ≠ 0) : 0 < x * x := by
  rcases Int.lt_or_gt_of_ne h with g | g
  · exact Int.mul_pos_of_neg_of_neg g g
  · exact Int.mul_pos g g
theorem sq_nn' (x : Int) : 0 ≤ x * x := by
  by_cases h : x = 0
  · subst h; decide
  · exact Int.le_of_lt (sq_pos' x h)
theorem norm_pos (x y : Int) (h : ¬ (x = 0 ∧ y = 0)) : 0 < x * x + y * y := by
  have h1 := sq_nn' x; have h2 := sq_nn' y
  by_cases hx : x = 0
  · have := sq_pos' y (fun g => h ⟨hx, g⟩); omega
  · have := sq_pos' x hx; omega
theorem before_left (x y : Int) (h : ¬ (x = 0 ∧ y = 0)) : beforeV x y (-y) x = decide (quarterV x y ≠ 3) := by
  have q := quarter_left x y h
  have b := quarter_bd x y
  unfold beforeV
  rw [decide_eq_decide]; omega
theorem dot_left (x y : Int) : dotN x y (-y) x = 0 := by unfold dotN; grind
theorem cross_self (x y : Int) : crossN x y x y = 0 := by unfold crossN; grind
theorem cross_swap (x y u v : Int) : crossN u v x y = -crossN x y u v := by unfold crossN; grind
theorem before_irr (x y : Int) : beforeV x y x y = false := by
  unfold beforeV; rw [cross_self, decide_eq_false_iff_not]; omega

/-- What a vector's quarter says of its numbers. -/
theorem quarter_is (x y : Int) (h : ¬ (x = 0 ∧ y = 0)) :
    (quarterV x y = 0 ∧ 0 < x ∧ 0 ≤ y) ∨ (quarterV x y = 1 ∧ 0 < y ∧ x ≤ 0) ∨ (quarterV x y = 2 ∧ x < 0 ∧ y ≤ 0) ∨ (quarterV x y = 3 ∧ y < 0 ∧ 0 ≤ x) := by
  unfold quarterV; repeat' split
  all_goals omega
theorem cross_trans {x y u v z w : Int} (h0 : ¬ (x = 0 ∧ y = 0)) (h1 : ¬ (u = 0 ∧ v = 0)) (h2 : ¬ (z = 0 ∧ w = 0)) (q1 : quarterV x y = quarterV u v) (q2 : quarterV u v = quarterV z w)
    (c1 : 0 < crossN x y u v) (c2 : 0 < crossN u v z w) : 0 < crossN x y z w := by
  have ex : crossN x y z w * u = crossN x y u v * z + crossN u v z w * x := by unfold crossN; grind
  have ey : crossN x y z w * v = crossN x y u v * w + crossN u v z w * y := by unfold crossN; grind
  by_cases hg : 0 < crossN x y z w
  · exact hg
  · exfalso
    have hn : crossN x y z w ≤ 0 := by omega
    rcases quarter_is x y h0 with ⟨k0, a0, b0⟩ | ⟨k0, a0, b0⟩ | ⟨k0, a0, b0⟩ | ⟨k0, a0, b0⟩ <;>
    rcases quarter_is u v h1 with ⟨k1, a1, b1⟩ | ⟨k1, a1, b1⟩ | ⟨k1, a1, b1⟩ | ⟨k1, a1, b1⟩ <;>
    rcases quarter_is z w h2 with ⟨k2, a2, b2⟩ | ⟨k2, a2, b2⟩ | ⟨k2, a2, b2⟩ | ⟨k2, a2, b2⟩ <;>
    first
      | omega
      | (have m1 := Int.mul_pos c1 a2; have m2 := Int.mul_pos c2 a0; have m3 := Int.mul_nonpos_of_nonpos_of_nonneg hn (Int.le_of_lt a1); omega)
      | (have m1 := Int.mul_neg_of_pos_of_neg c1 a2; have m2 := Int.mul_neg_of_pos_of_neg c2 a0; have m3 := Int.mul_nonneg_of_nonpos_of_nonpos hn (Int.le_of_lt a1); omega)
theorem before_trans {x y u v z w : Int} (h0 : ¬ (x = 0 ∧ y = 0)) (h1 : ¬ (u = 0 ∧ v = 0)) (h2 : ¬ (z = 0 ∧ w = 0)) (b1 : beforeV x y u v = true) (b2 : beforeV u v z w = true) : beforeV x y z w = true := by
  unfold beforeV at *
  rw [decide_eq_true_iff] at *
  rcases b1 with b1 | ⟨e1, c1⟩
  · omega
  · rcases b2 with b2 | ⟨e2, c2⟩
    · omega
    · exact .inr ⟨by omega, cross_trans h0 h1 h2 e1 e2 c1 c2⟩
theorem pos_of_mul {n u : Int} (h : 0 < n * u) (hn : 0 < n) : 0 < u := by
  by_cases k : 0 < u
  · exact k
  · have := Int.mul_nonpos_of_nonneg_of_nonpos (Int.le_of_lt hn) (show u ≤ 0 by omega); omega
/-- Two vectors that point the same way are in one quarter. -/
theorem same_quarter {x y u v : Int} (h0 : ¬ (x = 0 ∧ y = 0)) (h1 : ¬ (u = 0 ∧ v = 0)) (hc : crossN x y u v = 0) (hd : 0 < dotN x y u v) : quarterV x y = quarterV u v := by
  have ex : dotN x y u v * x = (x * x + y * y) * u + crossN x y u v * y := by unfold crossN dotN; grind
  have ey : dotN x y u v * y = (x * x + y * y) * v + crossN x y u v * -x := by unfold crossN dotN; grind
  rw [hc, Int.zero_mul, Int.add_zero] at ex ey
  have hn := norm_pos x y h0
  generalize dotN x y u v = d at hd ex ey
  generalize x * x + y * y = n at hn ex ey
  have sx : (0 < x ↔ 0 < u) ∧ (x < 0 ↔ u < 0) := by
    refine ⟨⟨fun g => ?_, fun g => ?_⟩, ⟨fun g => ?_, fun g => ?_⟩⟩
    · have := Int.mul_pos hd g; rw [ex] at this; exact pos_of_mul this hn
    · have := Int.mul_pos hn g; rw [← ex] at this; exact pos_of_mul this hd
    · have := Int.mul_neg_of_pos_of_neg hd g
      rw [ex] at this
      by_cases k : u < 0
      · exact k
      · have := Int.mul_nonneg (Int.le_of_lt hn) (show 0 ≤ u by omega); omega
    · have := Int.mul_neg_of_pos_of_neg hn g
      rw [← ex] at this
      by_cases k : x < 0
      · exact k
      · have := Int.mul_nonneg (Int.le_of_lt hd) (show 0 ≤ x by omega); omega
  have sy : (0 < y ↔ 0 < v) ∧ (y < 0 ↔ v < 0) := by
    refine ⟨⟨fun g => ?_, fun g => ?_⟩, ⟨fun g => ?_, fun g => ?_⟩⟩
    · have := Int.mul_pos hd g; rw [ey] at this; exact pos_of_mul this hn
    · have := Int.mul_pos hn g; rw [← ey] at this; exact pos_of_mul this hd
    · have := Int.mul_neg_of_pos_of_neg hd g
      rw [ey] at this
      by_cases k : v < 0
      · exact k
      · have := Int.mul_nonneg (Int.le_of_lt hn) (show 0 ≤ v by omega); omega
    · have := Int.mul_neg_of_pos_of_neg hn g
      rw [← ey] at this
      by_cases k : y < 0
      · exact k
      · have := Int.mul_nonneg (Int.le_of_lt hd) (show 0 ≤ y by omega); omega
  unfold quarterV
  repeat' split
  all_goals omega
theorem before_same {x y u v : Int} (h0 : ¬ (x = 0 ∧ y = 0)) (h1 : ¬ (u = 0 ∧ v = 0)) (hc : crossN x y u v = 0) (hd : 0 < dotN x y u v) : beforeV x y u v = false ∧ beforeV u v x y = false := by
  have q := same_quarter h0 h1 hc hd
  unfold beforeV
  rw [decide_eq_false_iff_not, decide_eq_false_iff_not, cross_swap x y u v]
  omega
/-- In one quarter, on one line: the same way. -/
theorem quarter_same {x y u v : Int} (h0 : ¬ (x = 0 ∧ y = 0)) (h1 : ¬ (u = 0 ∧ v = 0)) (q : quarterV x y = quarterV u v) (hc : crossN x y u v = 0) : 0 < dotN x y u v := by
  have ex : dotN x y u v * x = (x * x + y * y) * u + crossN x y u v * y := by unfold crossN dotN; grind
  have ey : dotN x y u v * y = (x * x + y * y) * v + crossN x y u v * -x := by unfold crossN dotN; grind
  rw [hc, Int.zero_mul, Int.add_zero] at ex ey
  have hn := norm_pos x y h0
  by_cases hd : 0 < dotN x y u v
  · exact hd
  · exfalso
    have hd' : dotN x y u v ≤ 0 := by omega
    rcases quarter_is x y h0 with ⟨k0, a0, b0⟩ | ⟨k0, a0, b0⟩ | ⟨k0, a0, b0⟩ | ⟨k0, a0, b0⟩ <;>
    rcases quarter_is u v h1 with ⟨k1, a1, b1⟩ | ⟨k1, a1, b1⟩ | ⟨k1, a1, b1⟩ | ⟨k1, a1, b1⟩ <;>
    first
      | omega
      | (have m1 := Int.mul_pos hn a1; have m2 := Int.mul_nonpos_of_nonpos_of_nonneg hd' (Int.le_of_lt a0); omega)
      | (have m1 := Int.mul_neg_of_pos_of_neg hn a1; have m2 := Int.mul_nonneg_of_nonpos_of_nonpos hd' (Int.le_of_lt a0); omega)
theorem before_other {x y u v : Int} (h0 : ¬ (x = 0 ∧ y = 0)) (h1 : ¬ (u = 0 ∧ v = 0)) (hs : ¬ (crossN x y u v = 0 ∧ 0 < dotN x y u v)) : beforeV u v x y = !beforeV x y u v := by
  unfold beforeV
  rw [← decide_not, decide_eq_decide, cross_swap x y u v]
  by_cases q : quarterV x y = quarterV u v
  · have : crossN x y u v ≠ 0 := fun hc => hs ⟨hc, quarter_same h0 h1 q hc⟩
    omega
  · omega

/-- Whether a miter is let. -/
def m64 (l : Int) : Int := if 64 < l then 64 else l
def miterV (x y u v l : Int) : Bool := decide (1 ≤ l ∧ 2 * dotN x y x y ≤ m64 l * m64 l * (dotN x y x y + dotN x y u v))
theorem m64_bd (l : Int) (h : 1 ≤ l) : 1 ≤ m64 l ∧ m64 l ≤ 64 := by unfold m64; split <;> omega
theorem sq_rise {a b : Int} (h0 : 0 ≤ a) (h : a ≤ b) : a * a ≤ b * b := Int.mul_le_mul h h h0 (by omega)
theorem miter_more {x y u v l : Int} (hl : 1 ≤ l) (h : miterV x y u v l = true) (hd : -dotN x y u v ≤ dotN x y x y) : miterV x y u v (l + 1) = true := by
  unfold miterV at *
  rw [decide_eq_true_iff] at *
  refine ⟨by omega, Int.le_trans h.2 ?_⟩
  have hb := m64_bd l hl
  exact Int.mul_le_mul_of_nonneg_right (sq_rise (by omega) (by unfold m64; split <;> split <;> omega)) (by omega)
theorem dot_nn (x y : Int) : 0 ≤ dotN x y x y := by unfold dotN; have := sq_nn' x; have := sq_nn' y; omega
theorem miter_on {x y l : Int} (hl : 1 ≤ l) : miterV x y x y l = true := by
  unfold miterV
  rw [decide_eq_true_iff]
  refine ⟨hl, ?_⟩
  have h1 := dot_nn x y
  have hb := m64_bd l hl
  have h2 := sq_rise (a := 1) (b := m64 l) (by omega) hb.1
  have h3 := Int.mul_le_mul_of_nonneg_right h2 (show 0 ≤ dotN x y x y + dotN x y x y by omega)
  omega
theorem dot_neg (x y : Int) : dotN x y (-x) (-y) = -dotN x y x y := by unfold dotN; grind
theorem miter_back {x y l : Int} (h : ¬ (x = 0 ∧ y = 0)) : miterV x y (-x) (-y) l = false := by
  have hn := norm_pos x y h
  unfold miterV
  rw [decide_eq_false_iff_not, dot_neg]
  rintro ⟨_, g⟩
  rw [show dotN x y x y + -dotN x y x y = 0 by omega, Int.mul_zero] at g
  unfold dotN at g; omega
theorem miter_low {x y u v l : Int} (h : l ≤ 0) : miterV x y u v l = false := by
  unfold miterV; rw [decide_eq_false_iff_not]; omega
end Go.Proofs.Ytfgkndfcddnhlaa
