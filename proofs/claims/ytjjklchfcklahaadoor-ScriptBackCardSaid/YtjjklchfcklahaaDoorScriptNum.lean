import Derived.Test.YtjjklchfcklahaaDoorCorn
import Derived.Test.YtjjklchfcklahaaDoorRef3E
/- Paths: what their verbs take, whether they may be, how they are split and joined: in numbers alone. -/
namespace Go.Proofs.YtjjklchfcklahaaDoor
set_option linter.unusedVariables false
set_option linter.unusedSimpArgs false

/-- A segment: its four points and how many count. -/
abbrev SegV := (Pnt × Pnt × Pnt × Pnt) × Int
/-- A subpath: where it starts, its segments, whether it is closed. -/
abbrev SubV := Pnt × List SegV × Bool
instance decSeg : DecidableEq SegV := inferInstance
instance decSub : DecidableEq SubV := fun a b => decidable_of_iff (a.1 = b.1 ∧ a.2.1 = b.2.1 ∧ a.2.2 = b.2.2) ⟨fun ⟨h1, h2, h3⟩ => Prod.ext h1 (Prod.ext h2 h3), fun h => by subst h; exact ⟨rfl, rfl, rfl⟩⟩
def takesV (v : Int) : Int := if v = 1 ∨ v = 2 then 1 else if v = 3 then 2 else if v = 4 then 3 else if v = 5 then 0 else -1
def farV (p : Pnt) : Bool := decide (¬ ((-268435456 ≤ p.1 ∧ p.1 ≤ 268435456) ∧ (-268435456 ≤ p.2 ∧ p.2 ≤ 268435456)))
/-- The first fault among verbs, behind the verb prev (5: none). -/
def chk (prev : Int) : List Int → Int
  | [] => 0
  | v :: t => if takesV v < 0 then 1 else if v ≠ 1 ∧ prev = 5 then 70 else chk v t
/-- How many points verbs take. -/
def needs : List Int → Int
  | [] => 0
  | v :: t => takesV v + needs t
def pathE (vs : List Int) (ps : List Pnt) : Int :=
  if 512 < vs.length then 74 else if chk 5 vs ≠ 0 then chk 5 vs else if needs vs ≠ (ps.length : Int) then 71 else if ps.any farV then 72 else 0
theorem check_ok {vs : List Int} {ps : List Pnt} : pathE vs ps = 0 ↔ vs.length ≤ 512 ∧ chk 5 vs = 0 ∧ needs vs = (ps.length : Int) ∧ ps.any farV = false := by
  unfold pathE
  by_cases h1 : 512 < vs.length
  · rw [if_pos h1]; constructor
    · intro h; cases h
    · rintro ⟨h, _⟩; omega
  · rw [if_neg h1]
    by_cases h2 : chk 5 vs = 0
    · rw [if_neg (by simpa using h2)]
      by_cases h3 : needs vs = (ps.length : Int)
      · rw [if_neg (by simpa using h3)]
        cases h4 : ps.any farV
        · simp [h2, h3]; omega
        · simp
      · rw [if_pos h3]; constructor
        · intro h; cases h
        · rintro ⟨_, _, h, _⟩; exact absurd h h3
    · rw [if_pos h2]; constructor
      · intro h; exact absurd h h2
      · rintro ⟨_, h, _⟩; exact absurd h h2

/-! ## Splitting -/
/-! ## Joining -/
/-! ## Subpaths that hang together -/
end Go.Proofs.YtjjklchfcklahaaDoor

/- Paths that may be: what is split of them hangs together; joined again it may be; shifted it is split into shifted ones. -/
namespace Go.Proofs.YtjjklchfcklahaaDoor
set_option linter.unusedVariables false
set_option linter.unusedSimpArgs false

theorem takes_cases {v : Int} (h : ¬ takesV v < 0) : v = 1 ∨ v = 5 ∨ v = 2 ∨ v = 3 ∨ v = 4 := by
  unfold takesV at h; split at h
  · omega
  · split at h
    · omega
    · split at h
      · omega
      · split at h
        · omega
        · omega
theorem takes_1 : takesV 1 = 1 := by decide
theorem takes_2 : takesV 2 = 1 := by decide
theorem chk_cons {p v : Int} {t : List Int} (h : chk p (v :: t) = 0) : ¬ takesV v < 0 ∧ (v ≠ 1 → p ≠ 5) ∧ chk v t = 0 := by
  unfold chk at h
  by_cases h1 : takesV v < 0
  · rw [if_pos h1] at h; cases h
  · rw [if_neg h1] at h
    by_cases h2 : v ≠ 1 ∧ p = 5
    · rw [if_pos h2] at h; cases h
    · rw [if_neg h2] at h
      exact ⟨h1, fun a b => h2 ⟨a, b⟩, h⟩
theorem chk_mk {p v : Int} {t : List Int} (h1 : ¬ takesV v < 0) (h2 : v ≠ 1 → p ≠ 5) (h : chk v t = 0) : chk p (v :: t) = 0 := by
  unfold chk
  rw [if_neg h1, if_neg (fun ⟨a, b⟩ => h2 a b)]; exact h
theorem needs_nn : ∀ (vs : List Int) (p : Int), chk p vs = 0 → 0 ≤ needs vs := by
  intro vs
  induction vs with
  | nil => intro p _; exact Int.le_refl _
  | cons v t ih => intro p h; obtain ⟨h1, _, h3⟩ := chk_cons h; have := ih v h3; unfold needs; omega
/-- A list of so many points is one of these. -/
theorem take_pts {α : Type} (l : List α) (k : Nat) (hk : k ≤ l.length) : (l.take k).length = k := by rw [List.length_take]; omega

/-! ## What is joined may be -/
end Go.Proofs.YtjjklchfcklahaaDoor

/- What is printed is parsed back: of the plain functions pr and parseV. -/
namespace Go.Proofs.YtjjklchfcklahaaDoor
open Go.RowKit
set_option linter.unusedVariables false
set_option linter.unusedSimpArgs false
set_option maxHeartbeats 2000000

theorem digB_yes (d : Nat) (h : d < 10) : digB ((UInt8.ofNat (48 + d)).toNat : Nat) = true ∧ (UInt8.ofNat (48 + d)).toNat = 48 + d := by
  have e : (UInt8.ofNat (48 + d)).toNat = 48 + d := by simp; omega
  refine ⟨?_, e⟩
  rw [e]; unfold digB; simp; omega
theorem p1_digit (sg : Int) (d : Nat) (hd : d < 10) (t : List UInt8) (wh : Int) (n : Nat) (hb : wh * 10 + d ≤ 1099511627776) :
    p1 sg (UInt8.ofNat (48 + d) :: t) wh n = p1 sg t (wh * 10 + d) (n + 1) := by
  obtain ⟨h1, h2⟩ := digB_yes d hd
  rw [p1, if_pos h1, h2, if_neg (by omega)]
  congr 1; omega
theorem p1_dec (sg : Int) : ∀ (D : Nat) (t : List UInt8) (n : Nat), D ≤ 1099511627776 → p1 sg (Lib.decDigits D ++ t) 0 n = p1 sg t D (n + Lib.nDigits D) := by
  intro D
  induction D using Nat.strongRecOn with
  | ind D ih =>
    intro t n hD
    by_cases h : D < 10
    · rw [Lib.decDigits_one h, Lib.nDigits_small h]
      show p1 sg (UInt8.ofNat (48 + D) :: t) 0 n = _
      rw [p1_digit sg D h t 0 n (by omega)]
      congr 1; omega
    · rw [Lib.decDigits, dif_neg h, Lib.nDigits_big h, List.append_assoc, ih (D / 10) (by omega) _ _ (by omega)]
      show p1 sg (UInt8.ofNat (48 + D % 10) :: t) _ _ = _
      rw [p1_digit sg (D % 10) (by omega) t _ _ (by omega)]
      congr 1; omega
theorem p1_noughts (sg : Int) (t : List UInt8) : ∀ (k n : Nat), p1 sg (List.replicate k 48 ++ t) 0 n = p1 sg t 0 (n + k) := by
  intro k
  induction k with
  | zero => intro n; rfl
  | succ k ih =>
    intro n
    rw [List.replicate_succ]
    show p1 sg (UInt8.ofNat (48 + 0) :: (List.replicate k 48 ++ t)) 0 n = _
    rw [p1_digit sg 0 (by omega) _ 0 n (by omega)]
    show p1 sg _ 0 _ = _
    rw [ih]
    congr 1; omega
theorem strip_nought (l : List UInt8) (h : l ≠ []) : strip (l ++ [48]) = strip l := by
  have h2 := List.length_pos_iff.2 h
  rw [strip, dif_pos ⟨by simp; omega, by simp⟩, List.dropLast_concat]
theorem strip_noughts (l : List UInt8) (h : l ≠ []) (k : Nat) : strip (l ++ List.replicate k 48) = strip l := by
  induction k with
  | zero => simp
  | succ k ih => rw [List.replicate_succ', ← List.append_assoc, strip_nought _ (by simp [h]), ih]
theorem strip_stop (l : List UInt8) (h : l.getLast? ≠ some 48) : strip l = l := by rw [strip, dif_neg (fun g => h g.2)]
/-- The digits of a text and a power of ten. -/
def pv : List UInt8 → Int → Int → Option (Int × Int)
  | [], num, ten => some (num, ten)
  | c :: t, num, ten => if digB c.toNat then pv t (num * 10 + (c.toNat - 48)) (ten * 10) else none
theorem p4_pv (sg wh : Int) : ∀ (l : List UInt8) (num ten a b : Int), pv l num ten = some (a, b) → p4 sg wh l num ten = if a * 256 % b = 0 then checkV sg wh (a * 256 / b) else pErr := by
  intro l
  induction l with
  | nil => intro num ten a b h; simp only [pv, Option.some.injEq, Prod.mk.injEq] at h; rw [← h.1, ← h.2, p4]
  | cons c t ih =>
    intro num ten a b h
    by_cases g : digB c.toNat = true
    · rw [pv, if_pos g] at h; rw [p4, if_pos g]; exact ih _ _ _ _ h
    · rw [pv, if_neg g] at h; cases h
def pvOK (x : Nat) : Bool := match pv (frac x) 0 1 with
  | some (a, b) => decide (a * 256 % b = 0) && decide (a * 256 / b = x)
  | none => false
theorem pv_fin : ∀ x : Fin 256, pvOK x.val = true := by decide +kernel
theorem frac_fin : ∀ x : Fin 256, x.val ≠ 0 → frac x.val ≠ [] ∧ (frac x.val).getLast? ≠ some 48 ∧ (frac x.val).length ≤ 8 := by decide +kernel
theorem p4_frac (sg wh : Int) (x : Nat) (hx : x < 256) : p4 sg wh (frac x) 0 1 = checkV sg wh x := by
  have h := pv_fin ⟨x, hx⟩
  simp only [pvOK] at h
  split at h
  case h_1 a b hab =>
    simp only [Bool.and_eq_true, decide_eq_true_eq] at h
    rw [p4_pv sg wh _ _ _ a b hab, if_pos h.1, h.2]
  case h_2 => cases h
theorem p3_frac (sg wh : Int) (x k : Nat) (hx : x < 256) (h0 : x ≠ 0) : p3 sg wh (frac x ++ List.replicate k 48) = checkV sg wh x := by
  obtain ⟨h1, h2, h3⟩ := frac_fin ⟨x, hx⟩ h0
  have h4 : (frac x).length ≤ 8 := h3
  unfold p3
  rw [strip_noughts _ h1, strip_stop _ h2, if_neg (by omega), p4_frac sg wh x hx]
theorem check_back (sg : Int) (A : Nat) (hA : A ≤ 1099511627776) : checkV sg ((A / 256 : Nat) : Int) ((A % 256 : Nat) : Int) = .tuple #[.int .i64 (sg * A), .int .i64 0] := by
  have e : ((A / 256 : Nat) : Int) * 256 + ((A % 256 : Nat) : Int) = A := by omega
  unfold checkV
  rw [e, if_neg (by omega)]
/-- The pixels' text with noughts ahead, and, behind the point, behind. -/
def noughty (A a b : Nat) : List UInt8 := List.replicate a 48 ++ prW A ++ (if A % 256 = 0 then [] else List.replicate b 48)
theorem p1_back (sg : Int) (A a b : Nat) (hA : A ≤ 1099511627776) : p1 sg (noughty A a b) 0 0 = .tuple #[.int .i64 (sg * A), .int .i64 0] := by
  have hn := Lib.nDigits_pos (A / 256)
  unfold noughty prW
  rw [List.append_assoc, p1_noughts, List.append_assoc, p1_dec sg (A / 256) _ _ (by omega)]
  by_cases h : A % 256 = 0
  · rw [if_pos h, if_pos h]
    show p1 sg [] _ _ = _
    rw [p1, if_neg (by omega), ← check_back sg A hA, h]; rfl
  · rw [if_neg h, if_neg h]
    have hx : A % 256 < 256 := by omega
    obtain ⟨h1, _, _⟩ := frac_fin ⟨A % 256, hx⟩ h
    show p1 sg (46 :: (frac (A % 256) ++ List.replicate b 48)) _ _ = _
    rw [p1, if_neg (by decide), if_neg (by omega), p2, if_pos ⟨rfl, by simp; exact fun g => absurd g h1⟩, p3_frac sg _ _ b hx h, check_back sg A hA]
theorem nDigits_le : ∀ (k D : Nat), D < 10 ^ (k + 1) → Lib.nDigits D ≤ k + 1 := by
  intro k
  induction k with
  | zero => intro D h; rw [Lib.nDigits_small (by simpa using h)]; omega
  | succ k ih =>
    intro D h
    by_cases g : D < 10
    · rw [Lib.nDigits_small g]; omega
    · rw [Lib.nDigits_big g]
      have := ih (D / 10) (by rw [Nat.pow_succ] at h; omega)
      omega
theorem noughty_len (A a b : Nat) (hA : A ≤ 1099511627776) (ha : a ≤ 3) (hb : b ≤ 3) : (noughty A a b).length ≤ 29 := by
  have h1 : Lib.nDigits (A / 256) ≤ 10 := nDigits_le 9 _ (by have : (10 : Nat) ^ (9 + 1) = 10000000000 := by decide
                                                             omega)
  have h2 := frac_len (show A % 256 < 256 by omega)
  unfold noughty prW
  simp only [List.length_append, List.length_replicate, Lib.decDigits_length]
  split
  · simp; omega
  · simp; omega
theorem dec_head (D : Nat) : ∃ c t, Lib.decDigits D = c :: t ∧ c ≠ 45 := by
  induction D using Nat.strongRecOn with
  | ind D ih =>
    by_cases h : D < 10
    · exact ⟨_, [], Lib.decDigits_one h, by
        intro g
        have := (digB_yes D h).2
        rw [g] at this
        have e : (45 : UInt8).toNat = 45 := rfl
        omega⟩
    · obtain ⟨c, t, e, hc⟩ := ih (D / 10) (by omega)
      exact ⟨c, _, by rw [Lib.decDigits, dif_neg h, e]; rfl, hc⟩
theorem noughty_head (A a b : Nat) : (noughty A a b).head? ≠ some 45 := by
  unfold noughty prW
  cases a with
  | zero =>
    obtain ⟨c, t, e, hc⟩ := dec_head (A / 256)
    rw [e]; simp; exact hc
  | succ a => rw [List.replicate_succ]; simp
/-- What is printed, with noughts ahead and behind, is parsed back. -/
theorem parse_back (n : Int) (a b : Nat) (hn : -1099511627776 ≤ n ∧ n ≤ 1099511627776) (ha : a ≤ 3) (hb : b ≤ 3) :
    parseV ((if n < 0 then [45] else []) ++ noughty n.natAbs a b) = .tuple #[.int .i64 n, .int .i64 0] := by
  have hA : n.natAbs ≤ 1099511627776 := by omega
  have hl := noughty_len n.natAbs a b hA ha hb
  by_cases h : n < 0
  · rw [if_pos h]
    show parseV (45 :: noughty n.natAbs a b) = _
    unfold parseV
    rw [if_neg (by simp; omega), if_pos (List.head?_cons)]
    show p1 (-1) (noughty n.natAbs a b) 0 0 = _
    rw [p1_back (-1) _ a b hA, show (-1 : Int) * (n.natAbs : Int) = n from by omega]
  · rw [if_neg h]
    show parseV (noughty n.natAbs a b) = _
    unfold parseV
    rw [if_neg (by omega), if_neg (noughty_head _ a b), p1_back 1 _ a b hA, show (1 : Int) * (n.natAbs : Int) = n from by omega]
theorem noughty_0 (A : Nat) : noughty A 0 0 = prW A := by unfold noughty; simp
theorem pr_back (n : Int) (hn : -1099511627776 ≤ n ∧ n ≤ 1099511627776) : parseV (pr n) = .tuple #[.int .i64 n, .int .i64 0] := by
  have := parse_back n 0 0 hn (by omega) (by omega)
  rw [noughty_0] at this
  exact this
end Go.Proofs.YtjjklchfcklahaaDoor

/- The landed Parse over a list of bytes, by steps of its own, and that it answers what the reference answers. -/
namespace Go.Proofs.YtjjklchfcklahaaDoor
open Go.RowKit
set_option linter.unusedVariables false
set_option linter.unusedSimpArgs false
set_option maxHeartbeats 2000000

/-- The digit that a byte tells. -/
def dg (c : UInt8) : Int := (c.toNat : Int) - 48
/-- A number of pixels with one digit more; at most 2^40. -/
def grow1 (n : Int) (c : UInt8) : Int := if 1099511627776 < n * 10 + dg c then 1099511627776 else n * 10 + dg c
/-- The whole pixels' digits behind the first one, and what is left of the text. -/
def pxl : List UInt8 → Int → Int × List UInt8
  | [], n => (n, [])
  | c :: t, n => if digB c.toNat then pxl t (grow1 n c) else (n, c :: t)
/-- The places behind the first one, and what is left of the text; none where a place beyond the eighth is no nought. -/
def ptl : List UInt8 → Int → Int → Option (Int × List UInt8)
  | [], n, u => some (n, [])
  | c :: t, n, u => if digB c.toNat then (if u / 10 = 0 ∧ dg c ≠ 0 then none else ptl t (n + dg c * (u / 10)) (u / 10)) else some (n, c :: t)
/-- Whole parts of that many hundred-millionths. -/
def whole (n : Int) (r : List UInt8) : Option (Int × List UInt8) := if n % 390625 = 0 then some (n / 390625, r) else none
def partsL : List UInt8 → Option (Int × List UInt8)
  | [] => none
  | c :: t => if digB c.toNat then (ptl t (dg c * 10000000) 10000000).bind (fun x => whole x.1 x.2) else none
def endL (sg : Int) (n : Int) (r : List UInt8) : Value := if r = [] ∧ n ≤ 1099511627776 then .tuple #[.int .i64 (sg * n), .int .i64 0] else pErr
def afterL (sg n : Int) (r : List UInt8) : Value :=
  if r.head? = some 46 then
    match partsL r.tail with
    | none => pErr
    | some x => endL sg (n * 256 + x.1) x.2
  else endL sg (n * 256) r
def numberL (sg : Int) : List UInt8 → Value
  | [] => pErr
  | c :: t => if digB c.toNat then afterL sg (pxl t (dg c)).1 (pxl t (dg c)).2 else pErr
def parseL (l : List UInt8) : Value := if l.head? = some 45 then numberL (-1) l.tail else numberL 1 l

theorem digB_iff (c : UInt8) : digB (c.toNat : Int) = true ↔ (48 ≤ c.toNat ∧ c.toNat ≤ 57) := by
  unfold digB; simp; omega
theorem dg_bd {c : UInt8} (h : digB (c.toNat : Int) = true) : 0 ≤ dg c ∧ dg c ≤ 9 := by
  rw [digB_iff] at h; unfold dg; omega
theorem dg_0 (c : UInt8) : dg c = 0 ↔ c = 48 := by
  unfold dg
  constructor
  · intro h
    exact UInt8.toNat_inj.1 (show c.toNat = 48 by omega)
  · rintro rfl; rfl

theorem endL_check (sg wh pt : Int) : endL sg (wh * 256 + pt) [] = checkV sg wh pt := by
  unfold endL checkV pErr
  by_cases h : wh * 256 + pt > 1099511627776
  · rw [if_pos h, if_neg (by rintro ⟨_, h2⟩; omega)]
  · rw [if_neg h, if_pos ⟨rfl, by omega⟩]
theorem endL_cons (sg n : Int) (c : UInt8) (t : List UInt8) : endL sg n (c :: t) = pErr := by
  unfold endL; rw [if_neg (by rintro ⟨h, _⟩; cases h)]

/-- Behind one digit at least, the reference reads on as the pixels' loop does. -/
theorem p1_more (sg : Int) : ∀ (l : List UInt8) (wh : Int) (n : Nat), 1 ≤ n →
    p1 sg l wh n = (match (pxl l wh).2 with | [] => checkV sg (pxl l wh).1 0 | c :: t => p2 sg (pxl l wh).1 (c :: t)) := by
  intro l
  induction l with
  | nil => intro wh n h; rw [p1, if_neg (by omega)]; rfl
  | cons c t ih =>
    intro wh n h
    by_cases hd : digB c.toNat = true
    · rw [p1, if_pos hd, pxl, if_pos hd]
      exact ih _ _ (by omega)
    · rw [p1, if_neg hd, if_neg (by omega), pxl, if_neg hd]

/-- All of these bytes are digits. -/
def AllD (l : List UInt8) : Prop := ∀ c ∈ l, digB (c.toNat : Int) = true
/-- The number that digits tell behind N. -/
def val : List UInt8 → Int → Int
  | [], N => N
  | c :: t, N => val t (N * 10 + dg c)

theorem ptl_digits : ∀ (s : List UInt8) (j : Nat) (N : Int), AllD s → s.length ≤ j → ptl s (N * 10 ^ j) (10 ^ j) = some (val s N * 10 ^ (j - s.length), []) := by
  intro s
  induction s with
  | nil => intro j N _ _; rfl
  | cons c t ih =>
    intro j N h hl
    obtain ⟨i, rfl⟩ : ∃ i, j = i + 1 := ⟨j - 1, by simp at hl; omega⟩
    have hc := h c (by simp)
    have e1 : (10 : Int) ^ (i + 1) / 10 = 10 ^ i := by rw [Int.pow_succ]; exact Int.mul_ediv_cancel _ (by omega)
    have h0 : (10 : Int) ^ i ≠ 0 := by have := Int.pow_pos (n := (10 : Int)) (m := i) (by omega); omega
    rw [ptl, if_pos hc, e1, if_neg (by rintro ⟨h1, _⟩; exact h0 h1)]
    have e2 : N * 10 ^ (i + 1) + dg c * 10 ^ i = (N * 10 + dg c) * 10 ^ i := by
      rw [Int.pow_succ, Int.add_mul, Int.mul_assoc, Int.mul_comm 10 (10 ^ i)]
    rw [e2, ih i _ (fun x hx => h x (by simp [hx])) (by simpa using hl)]
    simp only [val, List.length_cons, Nat.add_sub_add_right]
theorem ptl_noughts : ∀ (k : Nat) (n u : Int), ptl (List.replicate k 48) n u = some (n, []) := by
  intro k
  induction k with
  | zero => intro n u; rfl
  | succ k ih =>
    intro n u
    have e : dg 48 = 0 := rfl
    rw [List.replicate_succ, ptl, if_pos (by decide), if_neg (by rintro ⟨_, h⟩; exact h e), e, Int.zero_mul, Int.add_zero]
    exact ih _ _
theorem ptl_append : ∀ (a b : List UInt8) (n u m : Int), ptl a n u = some (m, []) → ∃ u', ptl (a ++ b) n u = ptl b m u' := by
  intro a
  induction a with
  | nil => intro b n u m h; simp only [ptl, Option.some.injEq, Prod.mk.injEq] at h; exact ⟨u, by rw [← h.1]; rfl⟩
  | cons c t ih =>
    intro b n u m h
    rw [ptl] at h
    by_cases hd : digB (c.toNat : Int) = true
    · rw [if_pos hd] at h
      by_cases hz : u / 10 = 0 ∧ dg c ≠ 0
      · rw [if_pos hz] at h; cases h
      · rw [if_neg hz] at h
        obtain ⟨u', e⟩ := ih b _ _ _ h
        exact ⟨u', by rw [List.cons_append, ptl, if_pos hd, if_neg hz, e]⟩
    · rw [if_neg hd] at h; simp at h
theorem ptl_far : ∀ (s : List UInt8) (n u : Int), AllD s → s ≠ [] → s.getLast? ≠ some 48 → 0 ≤ u → u < 10 ^ s.length → ∀ b, ptl (s ++ b) n u = none := by
  intro s
  induction s with
  | nil => intro n u _ h; exact absurd rfl h
  | cons c t ih =>
    intro n u h hne hl h0 hu b
    have hc := h c (by simp)
    rw [List.cons_append, ptl, if_pos hc]
    by_cases ht : t = []
    · subst ht
      have hu : u < 10 := by simpa using hu
      rw [if_pos ⟨by omega, fun hz => hl (by rw [(dg_0 c).1 hz]; rfl)⟩]
    · by_cases hz : u / 10 = 0 ∧ dg c ≠ 0
      · rw [if_pos hz]
      · rw [if_neg hz]
        refine ih _ _ (fun x hx => h x (by simp [hx])) ht ?_ (by omega) ?_ b
        · rwa [List.getLast?_cons_of_ne_nil ht] at hl
        · rw [List.length_cons, Int.pow_succ] at hu
          omega
theorem ptl_rest : ∀ (s : List UInt8) (n u : Int), ¬ AllD s → ptl s n u = none ∨ ∃ m c t, ptl s n u = some (m, c :: t) := by
  intro s
  induction s with
  | nil => intro n u h; exact absurd (fun c hc => by cases hc) h
  | cons c t ih =>
    intro n u h
    rw [ptl]
    by_cases hd : digB (c.toNat : Int) = true
    · rw [if_pos hd]
      by_cases hz : u / 10 = 0 ∧ dg c ≠ 0
      · rw [if_pos hz]; exact .inl rfl
      · rw [if_neg hz]
        refine ih _ _ (fun ha => h fun x hx => ?_)
        rcases List.mem_cons.1 hx with rfl | hx
        · exact hd
        · exact ha x hx
    · rw [if_neg hd]; exact .inr ⟨_, _, _, rfl⟩

theorem p4_digits (sg wh : Int) : ∀ (s : List UInt8) (num ten : Int), AllD s →
    p4 sg wh s num ten = if val s num * 256 % (ten * 10 ^ s.length) = 0 then checkV sg wh (val s num * 256 / (ten * 10 ^ s.length)) else pErr := by
  intro s
  induction s with
  | nil => intro num ten _; simp only [p4, val, List.length_nil, Int.pow_zero, Int.mul_one]
  | cons c t ih =>
    intro num ten h
    rw [p4, if_pos (h c (by simp)), ih _ _ (fun x hx => h x (by simp [hx]))]
    have e : ten * 10 * 10 ^ t.length = ten * 10 ^ (c :: t).length := by rw [List.length_cons, Int.pow_succ, Int.mul_assoc, Int.mul_comm 10 (10 ^ t.length)]
    rw [e]; rfl
theorem p4_other (sg wh : Int) : ∀ (s : List UInt8) (num ten : Int), ¬ AllD s → p4 sg wh s num ten = pErr := by
  intro s
  induction s with
  | nil => intro num ten h; exact absurd (fun c hc => by cases hc) h
  | cons c t ih =>
    intro num ten h
    rw [p4]
    by_cases hd : digB (c.toNat : Int) = true
    · rw [if_pos hd]
      refine ih _ _ (fun ha => h fun x hx => ?_)
      rcases List.mem_cons.1 hx with rfl | hx
      · exact hd
      · exact ha x hx
    · rw [if_neg hd]

theorem strip_form (t : List UInt8) (h : t ≠ []) : ∃ k, t = strip t ++ List.replicate k 48 ∧ strip t ≠ [] ∧ (1 < (strip t).length → (strip t).getLast? ≠ some 48) := by
  generalize hn : t.length = n
  induction n using Nat.strongRecOn generalizing t with
  | ind n ih =>
    by_cases hs : 1 < t.length ∧ t.getLast? = some 48
    · have e : strip t = strip t.dropLast := by conv => lhs; rw [strip, dif_pos hs]
      have hd : t.dropLast ≠ [] := by
        intro h0
        have := congrArg List.length h0
        simp at this; omega
      obtain ⟨k, h1, h2, h3⟩ := ih t.dropLast.length (by simp; omega) t.dropLast hd rfl
      rw [e]
      refine ⟨k + 1, ?_, h2, h3⟩
      have hl : t = t.dropLast ++ [48] := by
        obtain ⟨ys, e⟩ := List.getLast?_eq_some_iff.1 hs.2
        rw [e, List.dropLast_concat]
      rw [List.replicate_succ', ← List.append_assoc, ← h1]
      exact hl
    · have e : strip t = t := by rw [strip, dif_neg hs]
      rw [e]
      exact ⟨0, by simp, h, fun h1 h2 => hs ⟨h1, h2⟩⟩

theorem allD_append {a b : List UInt8} : AllD (a ++ b) ↔ AllD a ∧ AllD b := by
  unfold AllD
  constructor
  · intro h
    exact ⟨fun c hc => h c (by simp [hc]), fun c hc => h c (by simp [hc])⟩
  · rintro ⟨h1, h2⟩ c hc
    rcases List.mem_append.1 hc with h | h
    · exact h1 c h
    · exact h2 c h
theorem tenth (v : Int) (k : Nat) (hk : k ≤ 8) :
    (v * 256 % (1 * 10 ^ k) = 0 ↔ v * 10 ^ (8 - k) % 390625 = 0) ∧ v * 256 / (1 * 10 ^ k) = v * 10 ^ (8 - k) / 390625 := by
  have e1 : (10 : Int) ^ (8 - k) * 10 ^ k = 390625 * 256 := by
    rw [← Int.pow_add, show 8 - k + k = 8 by omega]; decide
  have p1 : (0 : Int) < 10 ^ (8 - k) := Int.pow_pos (by omega)
  have e2 : v * 256 * 10 ^ (8 - k) = v * 10 ^ (8 - k) * 256 := by rw [Int.mul_assoc, Int.mul_comm 256, ← Int.mul_assoc]
  have e3 : v * 256 / 10 ^ k = v * 10 ^ (8 - k) / 390625 := by
    rw [← Int.mul_ediv_mul_of_pos_left (v * 256) (10 ^ k) p1, e2, Int.mul_comm (10 ^ k), e1, Int.mul_ediv_mul_of_pos_left _ _ (by omega)]
  have e4 : v * 256 % 10 ^ k * 10 ^ (8 - k) = v * 10 ^ (8 - k) % 390625 * 256 := by
    rw [Int.mul_comm (v * 256 % 10 ^ k), ← Int.mul_emod_mul_of_pos (v * 256) (10 ^ k) p1, Int.mul_comm (10 ^ (8 - k)) (v * 256), e2, e1,
      Int.mul_comm (v * 10 ^ (8 - k)) 256, Int.mul_comm 390625 256, Int.mul_emod_mul_of_pos _ _ (by omega), Int.mul_comm]
  rw [Int.one_mul]
  refine ⟨⟨fun h => ?_, fun h => ?_⟩, e3⟩
  · rw [h, Int.zero_mul] at e4; omega
  · rw [h, Int.zero_mul] at e4
    rcases Int.mul_eq_zero.1 e4 with h | h
    · exact h
    · omega

theorem p3_parts (sg wh : Int) (t : List UInt8) (h : t ≠ []) :
    p3 sg wh t = (match partsL t with | none => pErr | some x => endL sg (wh * 256 + x.1) x.2) := by
  obtain ⟨k, h1, h2, h3⟩ := strip_form t h
  obtain ⟨c, s, hs⟩ : ∃ c s, strip t = c :: s := by
    cases hh : strip t with
    | nil => exact absurd hh h2
    | cons c s => exact ⟨c, s, rfl⟩
  have ht : t = c :: (s ++ List.replicate k 48) := by rw [hs] at h1; exact h1
  by_cases ha : AllD (c :: s)
  · have hc : digB (c.toNat : Int) = true := ha c (by simp)
    have has : AllD s := fun x hx => ha x (by simp [hx])
    unfold p3
    rw [hs, ht, partsL, if_pos hc]
    by_cases hl : 8 < (c :: s).length
    · have hl2 : 8 ≤ s.length := by simp at hl; omega
      have hlast : s.getLast? ≠ some 48 := by
        have := h3 (by rw [hs]; omega)
        rw [hs] at this
        rwa [List.getLast?_cons_of_ne_nil (by intro h0; rw [h0] at hl2; simp at hl2)] at this
      have hu : (10000000 : Int) < 10 ^ s.length := by
        obtain ⟨j, hj⟩ : ∃ j, s.length = 8 + j := ⟨s.length - 8, by omega⟩
        rw [hj, Int.pow_add]
        have := Int.pow_pos (n := (10 : Int)) (m := j) (by omega)
        have e8 : (10 : Int) ^ 8 = 100000000 := by decide
        rw [e8]; omega
      rw [if_pos hl, ptl_far s _ _ has (by intro h0; rw [h0] at hl2; simp at hl2) hlast (by omega) hu]
      rfl
    · have hl2 : s.length ≤ 7 := by simp at hl; omega
      have hp := ptl_digits s 7 (dg c) has hl2
      rw [show (10 : Int) ^ 7 = 10000000 by decide] at hp
      obtain ⟨u', e⟩ := ptl_append s (List.replicate k 48) _ _ _ hp
      have hv : val (c :: s) 0 = val s (dg c) := by rw [val, Int.zero_mul, Int.zero_add]
      obtain ⟨t1, t2⟩ := tenth (val s (dg c)) (c :: s).length (by omega)
      have e7 : 8 - (c :: s).length = 7 - s.length := by simp
      rw [e7] at t1 t2
      rw [if_neg hl, e, ptl_noughts, p4_digits sg wh _ _ _ ha, hv, t2, Option.bind_some]
      unfold whole
      by_cases hz : val s (dg c) * 10 ^ (7 - s.length) % 390625 = 0
      · rw [if_pos (t1.2 hz), if_pos hz]
        exact (endL_check _ _ _).symm
      · rw [if_neg (fun hh => hz (t1.1 hh)), if_neg hz]
  · have hp3 : p3 sg wh t = pErr := by
      unfold p3
      split
      · rfl
      · rw [hs]; exact p4_other _ _ _ _ _ ha
    rw [hp3, ht, partsL]
    by_cases hc : digB (c.toNat : Int) = true
    · rw [if_pos hc]
      have hn : ¬ AllD (s ++ List.replicate k 48) := fun hh => ha fun x hx => by
        rcases List.mem_cons.1 hx with rfl | hx
        · exact hc
        · exact (allD_append.1 hh).1 x hx
      rcases ptl_rest _ (dg c * 10000000) 10000000 hn with e | ⟨m, c2, t2, e⟩
      · rw [e]; rfl
      · rw [e, Option.bind_some]
        unfold whole
        by_cases hz : m % 390625 = 0
        · rw [if_pos hz]
          exact (endL_cons _ _ _ _).symm
        · rw [if_neg hz]
    · rw [if_neg hc]

theorem after_p2 (sg n : Int) (c : UInt8) (t : List UInt8) : p2 sg n (c :: t) = afterL sg n (c :: t) := by
  unfold afterL
  rw [p2]
  by_cases hc : c = 46
  · subst hc
    rw [if_pos (show (46 :: t).head? = some 46 from rfl)]
    by_cases ht : t = []
    · subst ht; rw [if_neg (by rintro ⟨_, h⟩; exact h rfl)]; rfl
    · rw [if_pos ⟨rfl, ht⟩]; exact p3_parts sg n t ht
  · rw [if_neg (by rintro ⟨h, _⟩; exact hc h), if_neg (by simpa using hc), endL_cons]
theorem number_p1 (sg : Int) (l : List UInt8) : p1 sg l 0 0 = numberL sg l := by
  cases l with
  | nil => rfl
  | cons c t =>
    rw [p1, numberL]
    by_cases hd : digB (c.toNat : Int) = true
    · have hb := dg_bd hd
      have e0 : (0 : Int) * 10 + ((c.toNat : Int) - 48) = dg c := by unfold dg; omega
      rw [if_pos hd, if_pos hd, e0, if_neg (by omega), p1_more sg t _ _ (by omega)]
      cases hr : (pxl t (dg c)).2 with
      | nil =>
        simp only [hr]
        rw [← endL_check, Int.add_zero]; rfl
      | cons c2 t2 =>
        simp only [hr]
        exact after_p2 _ _ _ _
    · rw [if_neg hd, if_neg hd, if_pos rfl]
theorem parseV_L (l : List UInt8) (h : ¬ 30 < l.length) : parseV l = parseL l := by
  unfold parseV parseL
  rw [if_neg h, number_p1, number_p1]
end Go.Proofs.YtjjklchfcklahaaDoor

/- What is printed: its digits, one by one. Plain facts. -/
namespace Go.Proofs.YtjjklchfcklahaaDoor
open Go.RowKit
set_option linter.unusedVariables false
set_option linter.unusedSimpArgs false
set_option maxHeartbeats 1000000

/-- All bytes of a list are digits. -/
def Digs (l : List UInt8) : Prop := ∀ c ∈ l, 48 ≤ c.toNat ∧ c.toNat ≤ 57
theorem digs_dec (D : Nat) : Digs (Lib.decDigits D) := by
  induction D using Nat.strongRecOn with
  | ind D ih =>
    by_cases h : D < 10
    · rw [Lib.decDigits_one h]
      intro c hc
      rw [List.mem_singleton] at hc
      rw [hc, (digB_yes D h).2]; omega
    · rw [Lib.decDigits, dif_neg h]
      intro c hc
      rcases List.mem_append.1 hc with g | g
      · exact ih (D / 10) (by omega) c g
      · rw [List.mem_singleton] at g
        rw [g, (digB_yes (D % 10) (by omega)).2]; omega
theorem dec_first (D : Nat) : ∃ c t, Lib.decDigits D = c :: t ∧ (t = [] ∨ c ≠ 48) := by
  induction D using Nat.strongRecOn with
  | ind D ih =>
    by_cases h : D < 10
    · exact ⟨_, [], Lib.decDigits_one h, .inl rfl⟩
    · obtain ⟨c, t, e, hc⟩ := ih (D / 10) (by omega)
      refine ⟨c, t ++ [UInt8.ofNat (48 + D % 10)], by rw [Lib.decDigits, dif_neg h, e]; rfl, .inr ?_⟩
      rcases hc with g | g
      · intro k
        by_cases h2 : D / 10 < 10
        · rw [Lib.decDigits_one h2] at e
          have e1 := (List.cons.inj e).1
          have := (digB_yes (D / 10) h2).2
          rw [e1, k] at this
          have : (48 : UInt8).toNat = 48 := rfl
          omega
        · have l := congrArg List.length e
          rw [Lib.decDigits_length, Lib.nDigits_big h2, g] at l
          have := Lib.nDigits_pos (D / 10 / 10)
          simp at l; omega
      · exact g
theorem digs_frac_fin : ∀ x : Fin 256, x.val ≠ 0 → (frac x.val).all (fun c => decide (48 ≤ c.toNat ∧ c.toNat ≤ 57)) = true ∧ 1 ≤ (frac x.val).length ∧ (frac x.val).length ≤ 8 ∧ (frac x.val).getLast? ≠ some 48 := by decide +kernel

end Go.Proofs.YtjjklchfcklahaaDoor

/- Texts of paths: their words, what they tell, and that what is printed is parsed back: in numbers alone. -/
namespace Go.Proofs.YtjjklchfcklahaaDoor
set_option linter.unusedVariables false
set_option linter.unusedSimpArgs false

def blankB (c : UInt8) : Bool := c == 9 || c == 10 || c == 13 || c == 32 || c == 44
def restB (l : List UInt8) : List UInt8 := l.dropWhile blankB
def wordW (l : List UInt8) : List UInt8 := l.takeWhile (fun c => !blankB c)
def restW (l : List UInt8) : List UInt8 := l.dropWhile (fun c => !blankB c)
def letterV (w : List UInt8) : Int := if w = [77] then 1 else if w = [76] then 2 else if w = [81] then 3 else if w = [67] then 4 else if w = [90] then 5 else 0
def tupI (v : Value) (j : Nat) : Int := match v with
  | .tuple a => match a[j]? with
    | some (.int _ n) => n
    | _ => 0
  | _ => 0
/-- The number that a word tells. -/
def numV (w : List UInt8) : Option Int := if tupI (parseV w) 1 = 0 then some (tupI (parseV w) 0) else none
/-- So many points' numbers, and what is left; else how much is left at the word that is wrong. -/
def ptsS : Nat → List UInt8 → Except Nat (List Pnt × List UInt8)
  | 0, r => .ok ([], r)
  | k + 1, r =>
    match numV (wordW (restB r)) with
    | none => .error (restB r).length
    | some a =>
      match numV (wordW (restB (restW (restB r)))) with
      | none => .error (restB (restW (restB r))).length
      | some b =>
        match ptsS k (restW (restB (restW (restB r)))) with
        | .error e => .error e
        | .ok (ps, r3) => .ok ((a, b) :: ps, r3)
/-- The verbs and points that a text tells, behind the verb now (0: none yet); else how much is left at the word that is wrong. -/
def parseS : Nat → List UInt8 → Int → Except Nat (List Int × List Pnt)
  | 0, _, _ => .error 0
  | f + 1, r, now =>
    if wordW (restB r) = [] then .ok ([], [])
    else if letterV (wordW (restB r)) = 0 ∧ (now = 0 ∨ now = 5) then .error (restB r).length
    else
      match ptsS (takesV (if 0 < letterV (wordW (restB r)) then letterV (wordW (restB r)) else if now = 1 then 2 else now)).toNat (if 0 < letterV (wordW (restB r)) then restW (restB r) else restB r) with
      | .error e => .error e
      | .ok (ps, r2) =>
        match parseS f r2 (if 0 < letterV (wordW (restB r)) then letterV (wordW (restB r)) else if now = 1 then 2 else now) with
        | .error e => .error e
        | .ok (vs, qs) => .ok ((if 0 < letterV (wordW (restB r)) then letterV (wordW (restB r)) else if now = 1 then 2 else now) :: vs, ps ++ qs)
/-! ## Printing -/
def letterB (v : Int) : UInt8 := if v = 1 then 77 else if v = 2 then 76 else if v = 3 then 81 else if v = 4 then 67 else 90
def ptT (p : Pnt) : List UInt8 := 32 :: (pr p.1 ++ 32 :: pr p.2)
def prS : List Int → List Pnt → List UInt8
  | [], _ => []
  | v :: t, ps => 32 :: letterB v :: ((ps.take (takesV v).toNat).flatMap ptT ++ prS t (ps.drop (takesV v).toNat))
/-! ## Words -/
def Wd (w : List UInt8) : Prop := w ≠ [] ∧ ∀ c ∈ w, blankB c = false
def Cut (r : List UInt8) : Prop := r = [] ∨ ∃ t, r = 32 :: t
theorem restB_blank (r : List UInt8) : restB (32 :: r) = restB r := rfl
theorem restB_word {w : List UInt8} (h : Wd w) (r : List UInt8) : restB (w ++ r) = w ++ r := by
  obtain ⟨h1, h2⟩ := h
  cases w with
  | nil => exact absurd rfl h1
  | cons c t => unfold restB; rw [List.cons_append, List.dropWhile_cons, h2 c (by simp)]; rfl
theorem word_cut {w : List UInt8} (h : ∀ c ∈ w, blankB c = false) {r : List UInt8} (hr : Cut r) : wordW (w ++ r) = w ∧ restW (w ++ r) = r := by
  induction w with
  | nil =>
    rcases hr with rfl | ⟨t, rfl⟩
    · exact ⟨rfl, rfl⟩
    · exact ⟨rfl, rfl⟩
  | cons c t ih =>
    have hc := h c (by simp)
    obtain ⟨i1, i2⟩ := ih (fun d hd => h d (by simp [hd]))
    unfold wordW at i1 ⊢
    unfold restW at i2 ⊢
    rw [List.cons_append, List.takeWhile_cons, List.dropWhile_cons, hc]
    exact ⟨by simp [i1], by simpa using i2⟩
theorem digs_wd {w : List UInt8} (h : Digs w) : ∀ c ∈ w, blankB c = false := fun c hc => by
  obtain ⟨h1, h2⟩ := h c hc
  unfold blankB
  have e : ∀ k : UInt8, k.toNat < 48 → (c == k) = false := fun k hk => by
    rw [beq_eq_false_iff_ne]; intro e; rw [e] at h1; omega
  rw [e 9 (by decide), e 10 (by decide), e 13 (by decide), e 32 (by decide), e 44 (by decide)]; rfl
theorem frac_wd (x : Nat) (hx : x < 256) (h0 : x ≠ 0) : ∀ c ∈ frac x, blankB c = false := by
  have h := (digs_frac_fin ⟨x, hx⟩ h0).1
  refine digs_wd (fun c hc => ?_)
  have := List.all_eq_true.1 h c hc
  exact of_decide_eq_true this
theorem pr_wd (n : Int) : Wd (pr n) := by
  have hW : ∀ c ∈ prW n.natAbs, blankB c = false := by
    intro c hc
    unfold prW at hc
    rcases List.mem_append.1 hc with h | h
    · exact digs_wd (digs_dec _) c h
    · split at h
      · cases h
      · rcases List.mem_cons.1 h with rfl | h
        · rfl
        · exact frac_wd _ (Nat.mod_lt _ (by decide)) (by assumption) c h
  have hne : prW n.natAbs ≠ [] := by
    obtain ⟨c, t, e, _⟩ := dec_first (n.natAbs / 256)
    unfold prW; rw [e]; simp
  unfold pr
  refine ⟨by simp [hne], fun c hc => ?_⟩
  rcases List.mem_append.1 hc with h | h
  · split at h
    · rw [List.mem_singleton] at h; subst h; rfl
    · cases h
  · exact hW c h
theorem num_back {n : Int} (hn : -1099511627776 ≤ n ∧ n ≤ 1099511627776) : numV (pr n) = some n := by
  unfold numV
  rw [pr_back n hn]
  rfl
def FarP (p : Pnt) : Prop := (-1099511627776 ≤ p.1 ∧ p.1 ≤ 1099511627776) ∧ (-1099511627776 ≤ p.2 ∧ p.2 ≤ 1099511627776)
theorem pts_back : ∀ (ps : List Pnt) (r : List UInt8), (∀ p ∈ ps, FarP p) → Cut r → ptsS ps.length (ps.flatMap ptT ++ r) = .ok (ps, r)
  | [], r, _, _ => rfl
  | p :: t, r, h, hr => by
    obtain ⟨h1, h2⟩ := h p (by simp)
    have ih := pts_back t r (fun q hq => h q (by simp [hq])) hr
    have hc : Cut (t.flatMap ptT ++ r) := by
      cases t with
      | nil => simpa using hr
      | cons q t => exact .inr ⟨_, by simp [ptT]; rfl⟩
    have e : (p :: t).flatMap ptT ++ r = 32 :: (pr p.1 ++ 32 :: (pr p.2 ++ (t.flatMap ptT ++ r))) := by simp [ptT]
    rw [e, List.length_cons]
    unfold ptsS
    have w1 := word_cut (pr_wd p.1).2 (r := 32 :: (pr p.2 ++ (t.flatMap ptT ++ r))) (.inr ⟨_, rfl⟩)
    have w2 := word_cut (pr_wd p.2).2 hc
    rw [restB_blank, restB_word (pr_wd p.1), w1.1, w1.2, restB_blank, restB_word (pr_wd p.2), w2.1, w2.2, num_back h1, num_back h2]
    dsimp only
    rw [ih]
theorem letter_wd {v : Int} (h : ¬ takesV v < 0) : Wd [letterB v] ∧ letterV [letterB v] = v := by
  rcases takes_cases h with rfl | rfl | rfl | rfl | rfl <;> exact ⟨⟨by simp, by decide⟩, by decide⟩
theorem prS_cut (vs : List Int) (ps : List Pnt) : Cut (prS vs ps) := by
  cases vs with
  | nil => exact .inl rfl
  | cons v t => exact .inr ⟨_, rfl⟩
/-- What is printed is parsed back, whatever came ahead. -/
theorem parse_print : ∀ (vs : List Int) (ps : List Pnt) (prev now : Int) (f : Nat), chk prev vs = 0 → needs vs = (ps.length : Int) → (∀ p ∈ ps, FarP p) → vs.length < f → parseS f (prS vs ps) now = .ok (vs, ps)
  | vs, ps, prev, now, 0, _, _, _, hf => absurd hf (Nat.not_lt_zero _)
  | [], ps, prev, now, f + 1, _, hn, _, _ => by
    have : ps = [] := List.eq_nil_of_length_eq_zero (by unfold needs at hn; omega)
    subst this
    rfl
  | v :: t, ps, prev, now, f + 1, hc, hn, hp, hf => by
    obtain ⟨h1, _, h3⟩ := chk_cons hc
    have hnn := needs_nn t v h3
    unfold needs at hn
    have hk : (takesV v).toNat ≤ ps.length := by omega
    have hlen := take_pts ps _ hk
    obtain ⟨⟨hw1, hw2⟩, hl⟩ := letter_wd h1
    have hv : 0 < v := by rcases takes_cases h1 with rfl | rfl | rfl | rfl | rfl <;> decide
    have hcut : Cut ((ps.take (takesV v).toNat).flatMap ptT ++ prS t (ps.drop (takesV v).toNat)) := by
      cases hps : ps.take (takesV v).toNat with
      | nil => simpa using prS_cut t _
      | cons q u => exact .inr ⟨_, by simp [ptT]; rfl⟩
    have ih := parse_print t (ps.drop (takesV v).toNat) v v f h3 (by rw [List.length_drop]; omega) (fun p h => hp p (List.mem_of_mem_drop h)) (by simpa using hf)
    have pb := pts_back (ps.take (takesV v).toNat) (prS t (ps.drop (takesV v).toNat)) (fun p h => hp p (List.mem_of_mem_take h)) (prS_cut t _)
    rw [hlen] at pb
    have w1 := word_cut (w := [letterB v]) hw2 hcut
    have e : prS (v :: t) ps = 32 :: ([letterB v] ++ ((ps.take (takesV v).toNat).flatMap ptT ++ prS t (ps.drop (takesV v).toNat))) := rfl
    rw [e]
    unfold parseS
    rw [restB_blank, restB_word ⟨hw1, hw2⟩, w1.1, w1.2, hl, if_neg hw1, if_neg (by omega), if_pos hv, if_pos hv, pb]
    dsimp only
    rw [ih]
    dsimp only
    rw [List.take_append_drop]
/-- Blanks ahead change nothing. -/
theorem parse_ahead (f : Nat) (r : List UInt8) (now : Int) : parseS f (32 :: r) now = parseS f r now := by
  cases f with
  | zero => rfl
  | succ f => unfold parseS; rw [restB_blank]
end Go.Proofs.YtjjklchfcklahaaDoor
