import Derived.Test.YtlgfnhapjhoelaaNum
/- Signs of exact numbers: sides, triangles, quarters, miters. No program. -/
namespace Go.Proofs.Ytlgfnhapjhoelaa
set_option linter.unusedVariables false
set_option linter.unusedSimpArgs false
set_option maxHeartbeats 2000000

/-- The exact cross of b less a, and c less a. -/
def crs (ax ay bx by' cx cy : Int) : Int := (bx - ax) * (cy - ay) - (by' - ay) * (cx - ax)
/-- Its sign, as wide numbers compare. -/
def sideV (ax ay bx by' px py : Int) : Int := cmpN ((bx - ax) * (py - ay)) ((by' - ay) * (px - ax))
theorem sideV_cases (ax ay bx by' px py : Int) :
    (sideV ax ay bx by' px py = -1 ∧ crs ax ay bx by' px py < 0) ∨ (sideV ax ay bx by' px py = 0 ∧ crs ax ay bx by' px py = 0) ∨ (sideV ax ay bx by' px py = 1 ∧ 0 < crs ax ay bx by' px py) := by
  unfold sideV cmpN crs
  split
  · exact .inl ⟨rfl, by omega⟩
  · split
    · exact .inr (.inl ⟨rfl, by omega⟩)
    · exact .inr (.inr ⟨rfl, by omega⟩)
theorem sideV_of (ax ay bx by' px py qx qy rx ry sx sy : Int) (h : crs ax ay bx by' px py = crs qx qy rx ry sx sy) : sideV ax ay bx by' px py = sideV qx qy rx ry sx sy := by
  rcases sideV_cases ax ay bx by' px py with h1 | h1 | h1 <;> rcases sideV_cases qx qy rx ry sx sy with h2 | h2 | h2 <;> omega
theorem sideV_neg (ax ay bx by' px py qx qy rx ry sx sy : Int) (h : crs ax ay bx by' px py = -crs qx qy rx ry sx sy) : sideV ax ay bx by' px py = -sideV qx qy rx ry sx sy := by
  rcases sideV_cases ax ay bx by' px py with h1 | h1 | h1 <;> rcases sideV_cases qx qy rx ry sx sy with h2 | h2 | h2 <;> omega
theorem crs_turn (ax ay bx by' cx cy : Int) : crs bx by' cx cy ax ay = crs ax ay bx by' cx cy := by unfold crs; grind
theorem crs_turn2 (ax ay bx by' cx cy : Int) : crs cx cy ax ay bx by' = crs ax ay bx by' cx cy := by unfold crs; grind
theorem crs_swap (ax ay bx by' cx cy : Int) : crs bx by' ax ay cx cy = -crs ax ay bx by' cx cy := by unfold crs; grind
theorem crs_last (ax ay bx by' cx cy : Int) : crs ax ay cx cy bx by' = -crs ax ay bx by' cx cy := by unfold crs; grind
theorem crs_back (ax ay bx by' : Int) : crs ax ay bx by' ax ay = 0 := by unfold crs; grind
theorem crs_end (ax ay bx by' : Int) : crs ax ay bx by' bx by' = 0 := by unfold crs; grind
theorem side_swap (ax ay bx by' cx cy : Int) : sideV bx by' ax ay cx cy = -sideV ax ay bx by' cx cy := sideV_neg _ _ _ _ _ _ _ _ _ _ _ _ (crs_swap _ _ _ _ _ _)
theorem side_0 {ax ay bx by' cx cy : Int} (h : crs ax ay bx by' cx cy = 0) : sideV ax ay bx by' cx cy = 0 := by
  rcases sideV_cases ax ay bx by' cx cy with h1 | h1 | h1 <;> omega
/-- p lies in the box of a and b, by one number. -/
def In1 (a b p : Int) : Prop := (a ≤ p ∧ p ≤ b) ∨ (b ≤ p ∧ p ≤ a)
instance (a b p : Int) : Decidable (In1 a b p) := by unfold In1; infer_instance
/-- p lies between a and b. -/
def Btw (ax ay bx by' px py : Int) : Prop := crs ax ay bx by' px py = 0 ∧ In1 ax bx px ∧ In1 ay by' py
instance (ax ay bx by' px py : Int) : Decidable (Btw ax ay bx by' px py) := by unfold Btw; infer_instance
def betweenV (ax ay bx by' px py : Int) : Bool := decide (Btw ax ay bx by' px py)
/-- p lies in a triangle. -/
def Wth (ax ay bx by' cx cy px py : Int) : Prop :=
  if crs ax ay bx by' cx cy = 0 then Btw ax ay bx by' px py ∨ Btw bx by' cx cy px py ∨ Btw cx cy ax ay px py
  else (0 ≤ crs ax ay bx by' px py ∧ 0 ≤ crs bx by' cx cy px py ∧ 0 ≤ crs cx cy ax ay px py) ∨ (crs ax ay bx by' px py ≤ 0 ∧ crs bx by' cx cy px py ≤ 0 ∧ crs cx cy ax ay px py ≤ 0)
instance (ax ay bx by' cx cy px py : Int) : Decidable (Wth ax ay bx by' cx cy px py) := by unfold Wth; infer_instance
def withinV (ax ay bx by' cx cy px py : Int) : Bool := decide (Wth ax ay bx by' cx cy px py)

theorem in1_swap (a b p : Int) : In1 b a p ↔ In1 a b p := by unfold In1; omega
theorem btw_swap (ax ay bx by' px py : Int) : Btw bx by' ax ay px py ↔ Btw ax ay bx by' px py := by
  unfold Btw; rw [crs_swap, in1_swap, in1_swap ay by']
  constructor <;> rintro ⟨h1, h2, h3⟩ <;> exact ⟨by omega, h2, h3⟩
theorem within_swap (ax ay bx by' cx cy px py : Int) : withinV cx cy bx by' ax ay px py = withinV ax ay bx by' cx cy px py := by
  unfold withinV; rw [decide_eq_decide]; unfold Wth
  have e : crs cx cy bx by' ax ay = -crs ax ay bx by' cx cy := by unfold crs; grind
  have e1 := crs_swap bx by' cx cy px py
  have e2 := crs_swap ax ay bx by' px py
  have e3 := crs_swap cx cy ax ay px py
  rw [btw_swap bx by' cx cy, btw_swap ax ay bx by', btw_swap cx cy ax ay]
  by_cases h : crs ax ay bx by' cx cy = 0
  · rw [if_pos h, if_pos (by omega)]
    constructor
    · rintro (h | h | h)
      · exact .inr (.inl h)
      · exact .inl h
      · exact .inr (.inr h)
    · rintro (h | h | h)
      · exact .inr (.inl h)
      · exact .inl h
      · exact .inr (.inr h)
  · rw [if_neg h, if_neg (by omega)]; omega
/-- What is shifted. -/
theorem crs_shift (ax ay bx by' cx cy s t : Int) : crs (ax + s) (ay + t) (bx + s) (by' + t) (cx + s) (cy + t) = crs ax ay bx by' cx cy := by unfold crs; grind
theorem side_shift (ax ay bx by' cx cy s t : Int) : sideV (ax + s) (ay + t) (bx + s) (by' + t) (cx + s) (cy + t) = sideV ax ay bx by' cx cy := sideV_of _ _ _ _ _ _ _ _ _ _ _ _ (crs_shift _ _ _ _ _ _ _ _)
def crossN (x y u v : Int) : Int := x * v - y * u
theorem cross_self (x y : Int) : crossN x y x y = 0 := by unfold crossN; grind
theorem cross_swap (x y u v : Int) : crossN u v x y = -crossN x y u v := by unfold crossN; grind
end Go.Proofs.Ytlgfnhapjhoelaa

/- Corners that go round: edges, areas, what is convex. No program. -/
namespace Go.Proofs.Ytlgfnhapjhoelaa
set_option linter.unusedVariables false
set_option linter.unusedSimpArgs false
set_option maxHeartbeats 2000000

abbrev Pnt := Int × Int
/-- Begun one corner later. -/
def rot {α : Type} : List α → List α
  | [] => []
  | p :: t => t ++ [p]
theorem rot_len {α : Type} (l : List α) : (rot l).length = l.length := by cases l <;> simp [rot]
theorem rot_perm {α : Type} (l : List α) : (rot l).Perm l := by
  cases l with
  | nil => exact .refl _
  | cons p t => exact List.perm_append_comm
theorem rot_zip {α β : Type} (a : List α) (b : List β) (h : a.length = b.length) : rot (a.zip b) = (rot a).zip (rot b) := by
  cases a with
  | nil => rfl
  | cons x a =>
    cases b with
    | nil => simp at h
    | cons y b =>
      simp only [List.zip_cons_cons, rot]
      rw [List.zip_append (by simpa using h)]
      rfl
/-- The sides: each corner with the next one. -/
def edges (l : List Pnt) : List (Pnt × Pnt) := l.zip (rot l)
theorem edges_len (l : List Pnt) : (edges l).length = l.length := by unfold edges; rw [List.length_zip, rot_len, Nat.min_self]
theorem edges_rot (l : List Pnt) : edges (rot l) = rot (edges l) := by
  unfold edges; rw [rot_zip _ _ (rot_len l).symm]
/-- Begun k corners later. -/
theorem turn_rot {α : Type} : ∀ (k : Nat) (l : List α), k ≤ l.length → ∃ j, l.drop k ++ l.take k = Nat.repeat rot j l := by
  intro k
  induction k with
  | zero => intro l _; exact ⟨0, by simp [Nat.repeat]⟩
  | succ k ih =>
    intro l h
    obtain ⟨j, e⟩ := ih l (by omega)
    refine ⟨j + 1, ?_⟩
    rw [Nat.repeat, ← e]
    have hk : k < l.length := by omega
    rw [List.drop_eq_getElem_cons hk, List.cons_append, rot, List.append_assoc, List.take_succ_eq_append_getElem hk]
theorem edges_turn (k : Nat) (l : List Pnt) (h : k ≤ l.length) : (edges (l.drop k ++ l.take k)).Perm (edges l) := by
  obtain ⟨j, e⟩ := turn_rot k l h
  rw [e]
  clear e
  induction j with
  | zero => exact .refl _
  | succ j ih => rw [Nat.repeat, edges_rot]; exact (rot_perm _).trans ih
theorem turn_perm {α : Type} (k : Nat) (l : List α) : (l.drop k ++ l.take k).Perm l :=
  List.perm_append_comm.trans (by rw [List.take_append_drop])
theorem rot_back {α : Type} (l : List α) : rot (rot l).reverse = l.reverse := by
  cases l with
  | nil => rfl
  | cons p t => simp [rot]
theorem zip_rev {α β : Type} : ∀ (a : List α) (b : List β), a.length = b.length → (a.zip b).reverse = a.reverse.zip b.reverse := by
  intro a
  induction a with
  | nil => intro b _; rfl
  | cons x a ih =>
    intro b h
    cases b with
    | nil => simp at h
    | cons y b =>
      have h' : a.length = b.length := by simpa using h
      rw [List.zip_cons_cons, List.reverse_cons, List.reverse_cons, List.reverse_cons, List.zip_append (by simpa using h'), ih b h']
      rfl
theorem zip_turned {α β : Type} : ∀ (a : List α) (b : List β), ((a.zip b).map fun e => (e.2, e.1)) = b.zip a := by
  intro a
  induction a with
  | nil => intro b; cases b <;> rfl
  | cons x a ih =>
    intro b
    cases b with
    | nil => rfl
    | cons y b => rw [List.zip_cons_cons, List.map_cons, ih, List.zip_cons_cons]
/-- Told backwards. -/
theorem edges_back (l : List Pnt) : (edges l.reverse).Perm ((edges l).map fun e => (e.2, e.1)) := by
  have e1 : edges (rot l).reverse = ((rot l).zip l).reverse := by
    unfold edges; rw [rot_back, zip_rev _ _ (rot_len l)]
  have e2 : ((edges l).map fun e => (e.2, e.1)) = (rot l).zip l := by
    unfold edges; exact zip_turned _ _
  rw [← rot_back, edges_rot, e1, e2]
  exact (rot_perm _).trans (List.reverse_perm _)

def crossP (e : Pnt × Pnt) : Int := crossN e.1.1 e.1.2 e.2.1 e.2.2
/-- Twice the exact area. -/
def areaE (l : List Pnt) : Int := ((edges l).map crossP).sum
def wrapA (n : Int) : Int := (n + 9223372036854775808) % 18446744073709551616 - 9223372036854775808
/-- What Area tells. -/
def areaV (l : List Pnt) : Int := wrapA (areaE l)
theorem sum_perm {a b : List Int} (h : a.Perm b) : a.sum = b.sum := by
  induction h with
  | nil => rfl
  | cons x _ ih => simp only [List.sum_cons, ih]
  | swap x y l => simp only [List.sum_cons]; omega
  | trans _ _ h1 h2 => exact h1.trans h2
theorem sum_neg (l : List (Pnt × Pnt)) : ((l.map fun e => (e.2, e.1)).map crossP).sum = -(l.map crossP).sum := by
  induction l with
  | nil => rfl
  | cons e t ih =>
    simp only [List.map_cons, List.sum_cons, ih]
    have : crossP (e.2, e.1) = -crossP e := cross_swap _ _ _ _
    omega
theorem area_turn (k : Nat) (l : List Pnt) (h : k ≤ l.length) : areaV (l.drop k ++ l.take k) = areaV l := by
  unfold areaV areaE; rw [sum_perm ((edges_turn k l h).map crossP)]
theorem area_back (l : List Pnt) : areaE l.reverse = -areaE l := by
  unfold areaE; rw [sum_perm ((edges_back l).map crossP), sum_neg]
theorem wrapA_neg (n : Int) : wrapA (-n) = wrapA (-wrapA n) := by unfold wrapA; omega
theorem wrapA_two (n : Int) : ¬ (0 < wrapA n ∧ 0 < wrapA (-n)) := by unfold wrapA; omega

/-- A point is not on the right of a side. -/
def leftOf1 (q : Pnt) (e : Pnt × Pnt) : Bool := decide (0 ≤ sideV e.1.1 e.1.2 e.2.1 e.2.2 q.1 q.2)
def hasAll (l : List Pnt) (q : Pnt) : Bool := (edges l).all (leftOf1 q)
def convexV (l : List Pnt) : Bool := decide (3 ≤ l.length) && decide (0 < areaV l) && (edges l).all fun e => l.all fun c => leftOf1 c e
def hasV (l : List Pnt) (q : Pnt) : Bool := convexV l && hasAll l q
theorem all_perm {α : Type} {a b : List α} (h : a.Perm b) (f : α → Bool) : a.all f = b.all f := by
  rw [Bool.eq_iff_iff, List.all_eq_true, List.all_eq_true]
  exact ⟨fun g x hx => g x (h.mem_iff.2 hx), fun g x hx => g x (h.mem_iff.1 hx)⟩
theorem hasAll_turn (k : Nat) (l : List Pnt) (h : k ≤ l.length) (q : Pnt) : hasAll (l.drop k ++ l.take k) q = hasAll l q := all_perm (edges_turn k l h) _
theorem convex_turn (k : Nat) (l : List Pnt) (h : k ≤ l.length) : convexV (l.drop k ++ l.take k) = convexV l := by
  unfold convexV
  rw [area_turn k l h, (turn_perm k l).length_eq, all_perm (edges_turn k l h)]
  congr 1
  exact congrArg _ (funext fun e => all_perm (turn_perm k l) _)
theorem has_turn (k : Nat) (l : List Pnt) (h : k ≤ l.length) (q : Pnt) : hasV (l.drop k ++ l.take k) q = hasV l q := by
  unfold hasV; rw [convex_turn k l h, hasAll_turn k l h]
theorem convex_two (l : List Pnt) : (convexV l.reverse && convexV l) = false := by
  rw [Bool.eq_false_iff]
  intro h
  rw [Bool.and_eq_true] at h
  unfold convexV at h
  simp only [Bool.and_eq_true, decide_eq_true_iff] at h
  have := wrapA_two (areaE l)
  have h1 := h.1.1.2
  have h2 := h.2.1.2
  unfold areaV at h1 h2
  rw [area_back] at h1
  exact this ⟨h2, h1⟩
/-- What is convex has all its corners. -/
theorem convex_has {l : List Pnt} (h : convexV l = true) {q : Pnt} (hq : q ∈ l) : hasV l q = true := by
  unfold hasV
  rw [h, Bool.true_and]
  unfold convexV at h
  simp only [Bool.and_eq_true] at h
  unfold hasAll
  rw [List.all_eq_true] at h ⊢
  exact fun e he => List.all_eq_true.1 (h.2 e he) q hq

/-! What is shifted. -/
def shP (b : Pnt) (p : Pnt) : Pnt := (p.1 + b.1, p.2 + b.2)
theorem rot_map {α β : Type} (f : α → β) (l : List α) : rot (l.map f) = (rot l).map f := by cases l <;> simp [rot]
theorem edges_map (f : Pnt → Pnt) (l : List Pnt) : edges (l.map f) = (edges l).map fun e => (f e.1, f e.2) := by
  unfold edges; rw [rot_map, List.zip_map]; rfl
theorem left_shift (b q : Pnt) (e : Pnt × Pnt) : leftOf1 (shP b q) (shP b e.1, shP b e.2) = leftOf1 q e := by
  unfold leftOf1 shP; rw [side_shift]
theorem sum_lin (f g h : Pnt × Pnt → Int) (l : List (Pnt × Pnt)) (e : ∀ x, f x = g x + h x) : (l.map f).sum = (l.map g).sum + (l.map h).sum := by
  induction l with
  | nil => rfl
  | cons x t ih => simp only [List.map_cons, List.sum_cons, ih, e x]; omega
theorem sum_first (f : Pnt → Int) (l : List Pnt) : ((edges l).map fun e => f e.1) = l.map f := by
  unfold edges
  rw [show (fun e : Pnt × Pnt => f e.1) = f ∘ Prod.fst from rfl, ← List.map_map, List.map_fst_zip (by rw [rot_len]; exact Nat.le_refl _)]
theorem sum_second (f : Pnt → Int) (l : List Pnt) : ((edges l).map fun e => f e.2) = (rot l).map f := by
  unfold edges
  rw [show (fun e : Pnt × Pnt => f e.2) = f ∘ Prod.snd from rfl, ← List.map_map, List.map_snd_zip (by rw [rot_len]; exact Nat.le_refl _)]
theorem sum_round (f : Pnt → Int) (l : List Pnt) : ((edges l).map fun e => f e.2 - f e.1).sum = 0 := by
  have h1 := sum_lin (fun e => f e.2) (fun e => f e.2 - f e.1) (fun e => f e.1) (edges l) (fun x => by omega)
  rw [sum_first, sum_second, sum_perm ((rot_perm l).map f)] at h1
  omega
theorem area_shift (b : Pnt) (l : List Pnt) : areaE (l.map (shP b)) = areaE l := by
  unfold areaE
  rw [edges_map, List.map_map]
  have h := sum_lin (crossP ∘ fun e => (shP b e.1, shP b e.2)) crossP (fun e => (b.1 * e.2.2 - b.2 * e.2.1) - (b.1 * e.1.2 - b.2 * e.1.1)) (edges l) (fun x => by
    simp only [Function.comp, crossP, crossN, shP]; grind)
  rw [h, sum_round (fun p => b.1 * p.2 - b.2 * p.1)]
  omega
theorem convex_shift (b : Pnt) (l : List Pnt) : convexV (l.map (shP b)) = convexV l := by
  unfold convexV areaV
  rw [area_shift, List.length_map, edges_map]
  congr 1
  rw [List.all_map]
  refine congrArg _ (funext fun e => ?_)
  simp only [Function.comp, List.all_map]
  exact congrArg _ (funext fun c => left_shift b c e)
theorem has_shift (b q : Pnt) (l : List Pnt) : hasV (l.map (shP b)) (shP b q) = hasV l q := by
  unfold hasV hasAll
  rw [convex_shift, edges_map, List.all_map]
  congr 1
  exact congrArg _ (funext fun e => left_shift b q e)

/-! The sides by their places. -/
theorem rot_at {α : Type} (l : List α) (k : Nat) (hk : k < l.length) : (rot l)[k]? = l[(k + 1) % l.length]? := by
  cases l with
  | nil => simp at hk
  | cons p t =>
    rw [rot]
    by_cases h : k < t.length
    · rw [List.getElem?_append_left h, Nat.mod_eq_of_lt (by simp; omega), List.getElem?_cons_succ]
    · have e : k = t.length := by simp at hk; omega
      rw [List.getElem?_append_right (by omega), e, Nat.sub_self, List.length_cons, Nat.mod_self]
      rfl
theorem edge_at {l : List Pnt} {k : Nat} {p q : Pnt} (hp : l[k]? = some p) (hq : l[(k + 1) % l.length]? = some q) : (edges l)[k]? = some (p, q) := by
  have hk := (List.getElem?_eq_some_iff.1 hp).1
  unfold edges
  rw [List.getElem?_zip_eq_some]
  exact ⟨hp, by rw [rot_at l k hk]; exact hq⟩
/-- What the first k sides sum up to. -/
def areaTo (l : List Pnt) (k : Nat) : Int := (((edges l).take k).map crossP).sum
theorem areaTo_end (l : List Pnt) : areaTo l l.length = areaE l := by
  unfold areaTo areaE; rw [List.take_of_length_le (by rw [edges_len]; exact Nat.le_refl _)]
theorem areaTo_step {l : List Pnt} {k : Nat} {e : Pnt × Pnt} (h : (edges l)[k]? = some e) : areaTo l (k + 1) = areaTo l k + crossP e := by
  have hk := (List.getElem?_eq_some_iff.1 h).1
  unfold areaTo
  rw [List.take_succ_eq_append_getElem hk, List.map_append, List.sum_append, (List.getElem?_eq_some_iff.1 h).2]
  simp
theorem wrapA_add (a b : Int) : wrapA (wrapA a + b) = wrapA (a + b) := by unfold wrapA; omega
end Go.Proofs.Ytlgfnhapjhoelaa

/- Three corners: when they are convex, what they have. No program. -/
namespace Go.Proofs.Ytlgfnhapjhoelaa
set_option linter.unusedVariables false
set_option linter.unusedSimpArgs false
set_option maxHeartbeats 2000000

def crsP (a b c : Pnt) : Int := crs a.1 a.2 b.1 b.2 c.1 c.2
theorem left_crs (q a b : Pnt) : leftOf1 q (a, b) = decide (0 ≤ crsP a b q) := by
  unfold leftOf1 crsP
  rw [decide_eq_decide]
  dsimp only
  rcases sideV_cases a.1 a.2 b.1 b.2 q.1 q.2 with h | h | h <;> omega
theorem area_three (a b c : Pnt) : areaE [a, b, c] = crsP a b c := by
  unfold areaE edges crsP crs
  simp only [rot, List.cons_append, List.nil_append, List.zip_cons_cons, List.zip_nil_right, List.map_cons, List.map_nil, List.sum_cons, List.sum_nil, crossP, crossN]
  grind
theorem wrapA_in {n : Int} (h : -9223372036854775808 ≤ n ∧ n ≤ 9223372036854775807) : wrapA n = n := by unfold wrapA; omega
/-- Near corners. -/
def NearP (a : Pnt) : Prop := (-1073741824 ≤ a.1 ∧ a.1 ≤ 1073741824) ∧ (-1073741824 ≤ a.2 ∧ a.2 ≤ 1073741824)
theorem mul_le' (u r : Int) (hu : 0 ≤ u) (hr : -2147483648 ≤ r ∧ r ≤ 2147483648) : -(u * 2147483648) ≤ u * r ∧ u * r ≤ u * 2147483648 := by
  refine ⟨?_, Int.mul_le_mul_of_nonneg_left hr.2 hu⟩
  have := Int.mul_le_mul_of_nonneg_left (show -2147483648 ≤ r from hr.1) hu
  omega
theorem crs_row (ax ay bx by' cx cy : Int) (h1 : ax ≤ bx) (h2 : bx ≤ cx) (hx : cx - ax ≤ 2147483648) (r1 : -2147483648 ≤ cy - by' ∧ cy - by' ≤ 2147483648) (r2 : -2147483648 ≤ by' - ay ∧ by' - ay ≤ 2147483648) :
    -4611686018427387904 ≤ crs ax ay bx by' cx cy ∧ crs ax ay bx by' cx cy ≤ 4611686018427387904 := by
  have e : crs ax ay bx by' cx cy = (bx - ax) * (cy - by') - (cx - bx) * (by' - ay) := by unfold crs; grind
  have m1 := mul_le' (bx - ax) (cy - by') (by omega) r1
  have m2 := mul_le' (cx - bx) (by' - ay) (by omega) r2
  rw [e]
  omega
/-- The exact double area of three near corners fits: it is at most that of their box. -/
theorem crs_bd {a b c : Pnt} (ha : NearP a) (hb : NearP b) (hc : NearP c) : -4611686018427387904 ≤ crsP a b c ∧ crsP a b c ≤ 4611686018427387904 := by
  obtain ⟨ax, ay⟩ := a
  obtain ⟨bx, by'⟩ := b
  obtain ⟨cx, cy⟩ := c
  unfold crsP NearP at *
  dsimp only at *
  have t1 := crs_turn ax ay bx by' cx cy
  have t2 := crs_turn2 ax ay bx by' cx cy
  have t3 := crs_swap ax ay bx by' cx cy
  have t4 := crs_last ax ay bx by' cx cy
  have t5 : crs cx cy bx by' ax ay = -crs ax ay bx by' cx cy := by unfold crs; grind
  by_cases h1 : ax ≤ bx
  · by_cases h2 : bx ≤ cx
    · exact crs_row _ _ _ _ _ _ h1 h2 (by omega) (by omega) (by omega)
    · by_cases h3 : ax ≤ cx
      · have := crs_row ax ay cx cy bx by' h3 (by omega) (by omega) (by omega) (by omega); omega
      · have := crs_row cx cy ax ay bx by' (by omega) h1 (by omega) (by omega) (by omega); omega
  · by_cases h2 : ax ≤ cx
    · have := crs_row bx by' ax ay cx cy (by omega) h2 (by omega) (by omega) (by omega); omega
    · by_cases h3 : bx ≤ cx
      · have := crs_row bx by' cx cy ax ay h3 (by omega) (by omega) (by omega) (by omega); omega
      · have := crs_row cx cy bx by' ax ay (by omega) (by omega) (by omega) (by omega) (by omega); omega
theorem crsP_turn (a b c : Pnt) : crsP b c a = crsP a b c := crs_turn _ _ _ _ _ _
theorem crsP_turn2 (a b c : Pnt) : crsP c a b = crsP a b c := crs_turn2 _ _ _ _ _ _
theorem crsP_self (a b : Pnt) : crsP a b a = 0 := crs_back _ _ _ _
theorem crsP_end (a b : Pnt) : crsP a b b = 0 := crs_end _ _ _ _
/-- Three corners are convex if they turn to the left. -/
theorem convex_three {a b c : Pnt} (ha : NearP a) (hb : NearP b) (hc : NearP c) : convexV [a, b, c] = decide (0 < crsP a b c) := by
  have hbd := crs_bd ha hb hc
  unfold convexV areaV
  rw [area_three, wrapA_in (by omega)]
  by_cases h : 0 < crsP a b c
  · have e : (edges [a, b, c]).all (fun e => [a, b, c].all fun q => leftOf1 q e) = true := by
      unfold edges
      simp only [rot, List.cons_append, List.nil_append, List.zip_cons_cons, List.zip_nil_right, List.all_cons, List.all_nil, left_crs, crsP_self, crsP_end, crsP_turn a b c, crsP_turn2 a b c]
      simp [show 0 ≤ crsP a b c by omega]
    rw [e, Bool.and_true]; simp [h]
  · simp [h]
/-- What three corners have that turn to the left. -/
theorem has_three {a b c q : Pnt} (ha : NearP a) (hb : NearP b) (hc : NearP c) (h : 0 < crsP a b c) : hasV [a, b, c] q = withinV a.1 a.2 b.1 b.2 c.1 c.2 q.1 q.2 := by
  have hne : crs a.1 a.2 b.1 b.2 c.1 c.2 ≠ 0 := by have : crsP a b c ≠ 0 := by omega
                                                   exact this
  have sum : crsP a b q + crsP b c q + crsP c a q = crsP a b c := by unfold crsP crs; grind
  unfold hasV hasAll
  rw [convex_three ha hb hc]
  unfold withinV Wth
  simp only [if_neg hne, edges, rot, List.cons_append, List.nil_append, List.zip_cons_cons, List.zip_nil_right, List.all_cons, List.all_nil, left_crs, h, decide_true, Bool.true_and, Bool.and_true]
  rw [← Bool.decide_and, ← Bool.decide_and, decide_eq_decide]
  show (0 ≤ crsP a b q ∧ 0 ≤ crsP b c q ∧ 0 ≤ crsP c a q) ↔ ((0 ≤ crsP a b q ∧ 0 ≤ crsP b c q ∧ 0 ≤ crsP c a q) ∨ (crsP a b q ≤ 0 ∧ crsP b c q ≤ 0 ∧ crsP c a q ≤ 0))
  omega
end Go.Proofs.Ytlgfnhapjhoelaa

/- What a convex piece has lies in the box of its corners. No program. -/
namespace Go.Proofs.Ytlgfnhapjhoelaa
set_option linter.unusedVariables false
set_option linter.unusedSimpArgs false
set_option maxHeartbeats 2000000

def crossV (u v : Pnt) : Int := crossN u.1 u.2 v.1 v.2
theorem cross_le_trans {u v w : Pnt} (hu : u.1 < 0) (hv : v.1 < 0) (hw : w.1 < 0) (h1 : 0 ≤ crossV u v) (h2 : 0 ≤ crossV v w) : 0 ≤ crossV u w := by
  have e : crossV u w * v.1 = crossV u v * w.1 + crossV v w * u.1 := by unfold crossV crossN; grind
  have m1 := Int.mul_nonpos_of_nonneg_of_nonpos h1 (Int.le_of_lt hw)
  have m2 := Int.mul_nonpos_of_nonneg_of_nonpos h2 (Int.le_of_lt hu)
  by_cases k : 0 ≤ crossV u w
  · exact k
  · have := Int.mul_pos_of_neg_of_neg (show crossV u w < 0 by omega) hv; omega
theorem chain_head : ∀ (t : List Pnt) (p f : Pnt), (∀ e ∈ (p :: t).zip (t ++ [f]), 0 ≤ crossV e.1 e.2) → p.1 < 0 → (∀ c ∈ t, c.1 < 0) → ∀ b ∈ t, 0 ≤ crossV p b := by
  intro t
  induction t with
  | nil => intro p f _ _ _ b hb; cases hb
  | cons c t ih =>
    intro p f he hp ht b hb
    have h1 : 0 ≤ crossV p c := he (p, c) (by simp)
    rcases List.mem_cons.1 hb with rfl | hb
    · exact h1
    · have h2 := ih c f (fun e h => he e (by simp only [List.cons_append, List.zip_cons_cons]; exact List.mem_cons_of_mem _ h)) (ht c (by simp)) (fun x hx => ht x (by simp [hx])) b hb
      exact cross_le_trans hp (ht c (by simp)) (ht b (by simp [hb])) h1 h2
theorem edges_cons (p : Pnt) (t : List Pnt) : edges (p :: t) = (p :: t).zip (t ++ [p]) := rfl
theorem cross_self' (p : Pnt) : crossV p p = 0 := cross_self _ _
theorem cross_rev (u v : Pnt) : crossV v u = -crossV u v := cross_swap _ _ _ _
/-- All on one side of a line, and turning one way all round: then they lie on one line. -/
theorem all_flat {l : List Pnt} (he : ∀ e ∈ edges l, 0 ≤ crossV e.1 e.2) (hl : ∀ c ∈ l, c.1 < 0) : ∀ a ∈ l, ∀ b ∈ l, 0 ≤ crossV a b := by
  intro a ha b hb
  obtain ⟨s, t, rfl⟩ := List.append_of_mem ha
  have e1 : (s ++ a :: t).drop s.length ++ (s ++ a :: t).take s.length = a :: (t ++ s) := by simp
  have hp := edges_turn s.length (s ++ a :: t) (by simp)
  rw [e1, edges_cons] at hp
  have hb' : b = a ∨ b ∈ t ++ s := by
    simp only [List.mem_append, List.mem_cons] at hb ⊢
    rcases hb with h | h | h
    · exact .inr (.inr h)
    · exact .inl h
    · exact .inr (.inl h)
  rcases hb' with rfl | hb'
  · rw [cross_self']; exact Int.le_refl _
  · exact chain_head (t ++ s) a a (fun e h => he e (hp.mem_iff.1 h)) (hl a (by simp)) (fun c hc => hl c (by simp only [List.mem_append, List.mem_cons] at hc ⊢; rcases hc with h | h; exact .inr (.inr h); exact .inl h)) b hb'
theorem mem_edges {l : List Pnt} {e : Pnt × Pnt} (h : e ∈ edges l) : e.1 ∈ l ∧ e.2 ∈ l := by
  unfold edges at h
  have h2 := List.of_mem_zip (show (e.1, e.2) ∈ l.zip (rot l) from h)
  exact ⟨h2.1, (rot_perm l).mem_iff.1 h2.2⟩
theorem sum_zero (l : List (Pnt × Pnt)) (f : Pnt × Pnt → Int) (h : ∀ e ∈ l, f e = 0) : (l.map f).sum = 0 := by
  induction l with
  | nil => rfl
  | cons e t ih => simp only [List.map_cons, List.sum_cons, h e (by simp), ih (fun x hx => h x (by simp [hx]))]; rfl
theorem flat_area {l : List Pnt} (g : Pnt → Pnt) (hg : ∀ u v, crossV (g u) (g v) = crossV u v) (he : ∀ e ∈ edges l, 0 ≤ crossV e.1 e.2) (hl : ∀ c ∈ l, (g c).1 < 0) : areaE l = 0 := by
  have h1 : ∀ e ∈ edges (l.map g), 0 ≤ crossV e.1 e.2 := by
    rw [edges_map]
    intro e h
    obtain ⟨x, hx, rfl⟩ := List.mem_map.1 h
    rw [hg]; exact he x hx
  have h2 : ∀ c ∈ l.map g, c.1 < 0 := by
    intro c h
    obtain ⟨x, hx, rfl⟩ := List.mem_map.1 h
    exact hl x hx
  have h3 := all_flat h1 h2
  unfold areaE
  refine sum_zero _ _ fun e h => ?_
  obtain ⟨m1, m2⟩ := mem_edges h
  have a1 := h3 (g e.1) (List.mem_map_of_mem m1) (g e.2) (List.mem_map_of_mem m2)
  have a2 := h3 (g e.2) (List.mem_map_of_mem m2) (g e.1) (List.mem_map_of_mem m1)
  rw [hg] at a1 a2
  rw [cross_rev] at a2
  show crossV e.1 e.2 = 0
  omega
theorem crs_cross (a b q : Pnt) : crossV (shP (-q.1, -q.2) a) (shP (-q.1, -q.2) b) = crsP a b q := by
  unfold crossV crossN shP crsP crs; grind
theorem has_some {l : List Pnt} {q : Pnt} (h : hasV l q = true) (g : Pnt → Pnt) (hg : ∀ u v, crossV (g u) (g v) = crossV u v) : ∃ c ∈ l, 0 ≤ (g (shP (-q.1, -q.2) c)).1 := by
  rw [← Decidable.not_not (p := ∃ c ∈ l, 0 ≤ (g (shP (-q.1, -q.2) c)).1)] <;> try exact Classical.propDecidable _
  intro hn
  have hall : ∀ c ∈ l.map (shP (-q.1, -q.2)), (g c).1 < 0 := by
    intro c hc
    obtain ⟨x, hx, rfl⟩ := List.mem_map.1 hc
    by_cases k : 0 ≤ (g (shP (-q.1, -q.2) x)).1
    · exact absurd ⟨x, hx, k⟩ hn
    · omega
  unfold hasV hasAll at h
  rw [Bool.and_eq_true] at h
  have hed : ∀ e ∈ edges (l.map (shP (-q.1, -q.2))), 0 ≤ crossV e.1 e.2 := by
    rw [edges_map]
    intro e he
    obtain ⟨x, hx, rfl⟩ := List.mem_map.1 he
    have := List.all_eq_true.1 h.2 x hx
    rw [show x = (x.1, x.2) from rfl, left_crs, decide_eq_true_iff] at this
    rw [crs_cross]; exact this
  have hz := flat_area g hg hed hall
  rw [area_shift] at hz
  have hc := h.1
  unfold convexV areaV at hc
  rw [hz] at hc
  simp [wrapA] at hc
theorem has_right {l : List Pnt} {q : Pnt} (h : hasV l q = true) : ∃ c ∈ l, q.1 ≤ c.1 := by
  obtain ⟨c, hc, hk⟩ := has_some h id (fun _ _ => rfl)
  exact ⟨c, hc, by simp only [id, shP] at hk; omega⟩
theorem has_left {l : List Pnt} {q : Pnt} (h : hasV l q = true) : ∃ c ∈ l, c.1 ≤ q.1 := by
  obtain ⟨c, hc, hk⟩ := has_some h (fun u => (-u.1, -u.2)) (fun u v => by unfold crossV crossN; grind)
  exact ⟨c, hc, by simp only [shP] at hk; omega⟩
theorem has_up {l : List Pnt} {q : Pnt} (h : hasV l q = true) : ∃ c ∈ l, q.2 ≤ c.2 := by
  obtain ⟨c, hc, hk⟩ := has_some h (fun u => (u.2, -u.1)) (fun u v => by unfold crossV crossN; grind)
  exact ⟨c, hc, by simp only [shP] at hk; omega⟩
theorem has_down {l : List Pnt} {q : Pnt} (h : hasV l q = true) : ∃ c ∈ l, c.2 ≤ q.2 := by
  obtain ⟨c, hc, hk⟩ := has_some h (fun u => (-u.2, u.1)) (fun u v => by unfold crossV crossN; grind)
  exact ⟨c, hc, by simp only [shP] at hk; omega⟩
end Go.Proofs.Ytlgfnhapjhoelaa

/- The box of corners, by the lesser and the greater of numbers. No program. -/
namespace Go.Proofs.Ytlgfnhapjhoelaa
set_option linter.unusedVariables false
set_option linter.unusedSimpArgs false

def mnA (a b : Int) : Int := if b < a then b else a
def mxA (a b : Int) : Int := if a < b then b else a
def boxStep (s : Int × Int × Int × Int) (q : Pnt) : Int × Int × Int × Int := (mnA s.1 q.1, mnA s.2.1 q.2, mxA s.2.2.1 q.1, mxA s.2.2.2 q.2)
/-- The least and the greatest numbers of p and these corners. -/
def box4 (p : Pnt) (t : List Pnt) : Int × Int × Int × Int := t.foldl boxStep (p.1, p.2, p.1, p.2)
theorem box4_step (p : Pnt) {l : List Pnt} {k : Nat} {q : Pnt} (h : l[k]? = some q) : box4 p (l.take (k + 1)) = (mnA (box4 p (l.take k)).1 q.1, mnA (box4 p (l.take k)).2.1 q.2, mxA (box4 p (l.take k)).2.2.1 q.1, mxA (box4 p (l.take k)).2.2.2 q.2) := by
  have hk := (List.getElem?_eq_some_iff.1 h).1
  unfold box4
  rw [List.take_succ_eq_append_getElem hk, List.foldl_append, (List.getElem?_eq_some_iff.1 h).2]
  rfl
theorem mn_le (a b : Int) : mnA a b ≤ a ∧ mnA a b ≤ b ∧ (mnA a b = a ∨ mnA a b = b) := by unfold mnA; split <;> omega
theorem mx_le (a b : Int) : a ≤ mxA a b ∧ b ≤ mxA a b ∧ (mxA a b = a ∨ mxA a b = b) := by unfold mxA; split <;> omega
theorem fold_box : ∀ (t : List Pnt) (s : Int × Int × Int × Int),
    ((t.foldl boxStep s).1 ≤ s.1 ∧ (t.foldl boxStep s).2.1 ≤ s.2.1 ∧ s.2.2.1 ≤ (t.foldl boxStep s).2.2.1 ∧ s.2.2.2 ≤ (t.foldl boxStep s).2.2.2) ∧
    (∀ c ∈ t, (t.foldl boxStep s).1 ≤ c.1 ∧ (t.foldl boxStep s).2.1 ≤ c.2 ∧ c.1 ≤ (t.foldl boxStep s).2.2.1 ∧ c.2 ≤ (t.foldl boxStep s).2.2.2) ∧
    ((t.foldl boxStep s).1 = s.1 ∨ ∃ c ∈ t, c.1 = (t.foldl boxStep s).1) ∧ ((t.foldl boxStep s).2.1 = s.2.1 ∨ ∃ c ∈ t, c.2 = (t.foldl boxStep s).2.1) ∧
    ((t.foldl boxStep s).2.2.1 = s.2.2.1 ∨ ∃ c ∈ t, c.1 = (t.foldl boxStep s).2.2.1) ∧ ((t.foldl boxStep s).2.2.2 = s.2.2.2 ∨ ∃ c ∈ t, c.2 = (t.foldl boxStep s).2.2.2) := by
  intro t
  induction t with
  | nil => intro s; exact ⟨⟨Int.le_refl _, Int.le_refl _, Int.le_refl _, Int.le_refl _⟩, fun c h => (by cases h), .inl rfl, .inl rfl, .inl rfl, .inl rfl⟩
  | cons q t ih =>
    intro s
    obtain ⟨h1, h2, h3, h4, h5, h6⟩ := ih (boxStep s q)
    have a1 := mn_le s.1 q.1
    have a2 := mn_le s.2.1 q.2
    have a3 := mx_le s.2.2.1 q.1
    have a4 := mx_le s.2.2.2 q.2
    rw [List.foldl_cons]
    generalize t.foldl boxStep (boxStep s q) = r at *
    simp only [boxStep] at h1 h3 h4 h5 h6
    refine ⟨by omega, fun c hc => ?_, ?_, ?_, ?_, ?_⟩
    · rcases List.mem_cons.1 hc with rfl | hc
      · omega
      · exact h2 c hc
    · rcases h3 with h | ⟨c, hc, e⟩
      · rcases a1.2.2 with k | k
        · exact .inl (by omega)
        · exact .inr ⟨q, by simp, by omega⟩
      · exact .inr ⟨c, by simp [hc], e⟩
    · rcases h4 with h | ⟨c, hc, e⟩
      · rcases a2.2.2 with k | k
        · exact .inl (by omega)
        · exact .inr ⟨q, by simp, by omega⟩
      · exact .inr ⟨c, by simp [hc], e⟩
    · rcases h5 with h | ⟨c, hc, e⟩
      · rcases a3.2.2 with k | k
        · exact .inl (by omega)
        · exact .inr ⟨q, by simp, by omega⟩
      · exact .inr ⟨c, by simp [hc], e⟩
    · rcases h6 with h | ⟨c, hc, e⟩
      · rcases a4.2.2 with k | k
        · exact .inl (by omega)
        · exact .inr ⟨q, by simp, by omega⟩
      · exact .inr ⟨c, by simp [hc], e⟩
/-- All corners lie in the box, and each of its sides is reached. -/
theorem box_all (p : Pnt) (t : List Pnt) : (∀ c ∈ p :: t, (box4 p (p :: t)).1 ≤ c.1 ∧ (box4 p (p :: t)).2.1 ≤ c.2 ∧ c.1 ≤ (box4 p (p :: t)).2.2.1 ∧ c.2 ≤ (box4 p (p :: t)).2.2.2) ∧
    (∃ c ∈ p :: t, c.1 = (box4 p (p :: t)).1) ∧ (∃ c ∈ p :: t, c.2 = (box4 p (p :: t)).2.1) ∧ (∃ c ∈ p :: t, c.1 = (box4 p (p :: t)).2.2.1) ∧ (∃ c ∈ p :: t, c.2 = (box4 p (p :: t)).2.2.2) := by
  obtain ⟨_, h2, h3, h4, h5, h6⟩ := fold_box (p :: t) (p.1, p.2, p.1, p.2)
  refine ⟨h2, ?_, ?_, ?_, ?_⟩
  · rcases h3 with h | h
    · exact ⟨p, by simp, h.symm⟩
    · exact h
  · rcases h4 with h | h
    · exact ⟨p, by simp, h.symm⟩
    · exact h
  · rcases h5 with h | h
    · exact ⟨p, by simp, h.symm⟩
    · exact h
  · rcases h6 with h | h
    · exact ⟨p, by simp, h.symm⟩
    · exact h
/-- What a convex piece has lies in its box. -/
theorem has_box {p : Pnt} {t : List Pnt} {q : Pnt} (h : hasV (p :: t) q = true) : (box4 p (p :: t)).1 ≤ q.1 ∧ q.1 ≤ (box4 p (p :: t)).2.2.1 ∧ (box4 p (p :: t)).2.1 ≤ q.2 ∧ q.2 ≤ (box4 p (p :: t)).2.2.2 := by
  have hb := (box_all p t).1
  obtain ⟨c1, m1, k1⟩ := has_left h
  obtain ⟨c2, m2, k2⟩ := has_right h
  obtain ⟨c3, m3, k3⟩ := has_down h
  obtain ⟨c4, m4, k4⟩ := has_up h
  have b1 := hb c1 m1
  have b2 := hb c2 m2
  have b3 := hb c3 m3
  have b4 := hb c4 m4
  omega
end Go.Proofs.Ytlgfnhapjhoelaa
