/- What is printed is parsed back: of the plain functions pr and parseV. -/
import Derived.Test.YtflnchbamlcgaaaDoorRef3E
namespace Go.Proofs.YtflnchbamlcgaaaDoor
open Go.RowKit
set_option linter.unusedVariables false
set_option linter.unusedSimpArgs false
set_option maxHeartbeats 2000000

theorem digB_yes (d : Nat) (h : d < 10) : digB ((UInt8.ofNat (48 + d)).toNat : Nat) = true ∧ (UInt8.ofNat (48 + d)).toNat = 48 + d := by
  have e : (UInt8.ofNat (48 + d)).toNat = 48 + d := by simp; omega
  refine ⟨?_, e⟩
  rw [e]; unfold digB; simp; omega
theorem p1_digit (sg : Int) (d : Nat) (hd : d < 10) (t : List UInt8) (wh : Int) (n : Nat) (hb : wh * 10 + d ≤ 1099511627776) :
    p1 sg (UInt8.ofNat (48 + d) :: t) wh n = p1 sg t (wh * 10 + d) (n + 1) := by
  obtain ⟨h1, h2⟩ := digB_yes d hd
  rw [p1, if_pos h1, h2, if_neg (by omega)]
  congr 1; omega
theorem p1_dec (sg : Int) : ∀ (D : Nat) (t : List UInt8) (n : Nat), D ≤ 1099511627776 → p1 sg (Lib.decDigits D ++ t) 0 n = p1 sg t D (n + Lib.nDigits D) := by
  intro D
  induction D using Nat.strongRecOn with
  | ind D ih =>
    intro t n hD
    by_cases h : D < 10
    · rw [Lib.decDigits_one h, Lib.nDigits_small h]
      show p1 sg (UInt8.ofNat (48 + D) :: t) 0 n = _
      rw [p1_digit sg D h t 0 n (by omega)]
      congr 1; omega
    · rw [Lib.decDigits, dif_neg h, Lib.nDigits_big h, List.append_assoc, ih (D / 10) (by omega) _ _ (by omega)]
      show p1 sg (UInt8.ofNat (48 + D % 10) :: t) _ _ = _
      rw [p1_digit sg (D % 10) (by omega) t _ _ (by omega)]
      congr 1; omega
theorem p1_noughts (sg : Int) (t : List UInt8) : ∀ (k n : Nat), p1 sg (List.replicate k 48 ++ t) 0 n = p1 sg t 0 (n + k) := by
  intro k
  induction k with
  | zero => intro n; rfl
  | succ k ih =>
    intro n
    rw [List.replicate_succ]
    show p1 sg (UInt8.ofNat (48 + 0) :: (List.replicate k 48 ++ t)) 0 n = _
    rw [p1_digit sg 0 (by omega) _ 0 n (by omega)]
    show p1 sg _ 0 _ = _
    rw [ih]
    congr 1; omega
theorem strip_nought (l : List UInt8) (h : l ≠ []) : strip (l ++ [48]) = strip l := by
  have h2 := List.length_pos_iff.2 h
  rw [strip, dif_pos ⟨by simp; omega, by simp⟩, List.dropLast_concat]
theorem strip_noughts (l : List UInt8) (h : l ≠ []) (k : Nat) : strip (l ++ List.replicate k 48) = strip l := by
  induction k with
  | zero => simp
  | succ k ih => rw [List.replicate_succ', ← List.append_assoc, strip_nought _ (by simp [h]), ih]
theorem strip_stop (l : List UInt8) (h : l.getLast? ≠ some 48) : strip l = l := by rw [strip, dif_neg (fun g => h g.2)]
/-- The digits of a text and a power of ten. -/
def pv : List UInt8 → Int → Int → Option (Int × Int)
  | [], num, ten => some (num, ten)
  | c :: t, num, ten => if digB c.toNat then pv t (num * 10 + (c.toNat - 48)) (ten * 10) else none
theorem p4_pv (sg wh : Int) : ∀ (l : List UInt8) (num ten a b : Int), pv l num ten = some (a, b) → p4 sg wh l num ten = if a * 256 % b = 0 then checkV sg wh (a * 256 / b) else pErr := by
  intro l
  induction l with
  | nil => intro num ten a b h; simp only [pv, Option.some.injEq, Prod.mk.injEq] at h; rw [← h.1, ← h.2, p4]
  | cons c t ih =>
    intro num ten a b h
    by_cases g : digB c.toNat = true
    · rw [pv, if_pos g] at h; rw [p4, if_pos g]; exact ih _ _ _ _ h
    · rw [pv, if_neg g] at h; cases h
def pvOK (x : Nat) : Bool := match pv (frac x) 0 1 with
  | some (a, b) => decide (a * 256 % b = 0) && decide (a * 256 / b = x)
  | none => false
theorem pv_fin : ∀ x : Fin 256, pvOK x.val = true := by decide +kernel
theorem frac_fin : ∀ x : Fin 256, x.val ≠ 0 → frac x.val ≠ [] ∧ (frac x.val).getLast? ≠ some 48 ∧ (frac x.val).length ≤ 8 := by decide +kernel
theorem p4_frac (sg wh : Int) (x : Nat) (hx : x < 256) : p4 sg wh (frac x) 0 1 = checkV sg wh x := by
  have h := pv_fin ⟨x, hx⟩
  simp only [pvOK] at h
  split at h
  case h_1 a b hab =>
    simp only [Bool.and_eq_true, decide_eq_true_eq] at h
    rw [p4_pv sg wh _ _ _ a b hab, if_pos h.1, h.2]
  case h_2 => cases h
theorem p3_frac (sg wh : Int) (x k : Nat) (hx : x < 256) (h0 : x ≠ 0) : p3 sg wh (frac x ++ List.replicate k 48) = checkV sg wh x := by
  obtain ⟨h1, h2, h3⟩ := frac_fin ⟨x, hx⟩ h0
  have h4 : (frac x).length ≤ 8 := h3
  unfold p3
  rw [strip_noughts _ h1, strip_stop _ h2, if_neg (by omega), p4_frac sg wh x hx]
theorem check_back (sg : Int) (A : Nat) (hA : A ≤ 1099511627776) : checkV sg ((A / 256 : Nat) : Int) ((A % 256 : Nat) : Int) = .tuple #[.int .i64 (sg * A), .int .i64 0] := by
  have e : ((A / 256 : Nat) : Int) * 256 + ((A % 256 : Nat) : Int) = A := by omega
  unfold checkV
  rw [e, if_neg (by omega)]
/-- The pixels' text with noughts ahead, and, behind the point, behind. -/
def noughty (A a b : Nat) : List UInt8 := List.replicate a 48 ++ prW A ++ (if A % 256 = 0 then [] else List.replicate b 48)
theorem p1_back (sg : Int) (A a b : Nat) (hA : A ≤ 1099511627776) : p1 sg (noughty A a b) 0 0 = .tuple #[.int .i64 (sg * A), .int .i64 0] := by
  have hn := Lib.nDigits_pos (A / 256)
  unfold noughty prW
  rw [List.append_assoc, p1_noughts, List.append_assoc, p1_dec sg (A / 256) _ _ (by omega)]
  by_cases h : A % 256 = 0
  · rw [if_pos h, if_pos h]
    show p1 sg [] _ _ = _
    rw [p1, if_neg (by omega), ← check_back sg A hA, h]; rfl
  · rw [if_neg h, if_neg h]
    have hx : A % 256 < 256 := by omega
    obtain ⟨h1, _, _⟩ := frac_fin ⟨A % 256, hx⟩ h
    show p1 sg (46 :: (frac (A % 256) ++ List.replicate b 48)) _ _ = _
    rw [p1, if_neg (by decide), if_neg (by omega), p2, if_pos ⟨rfl, by simp; exact fun g => absurd g h1⟩, p3_frac sg _ _ b hx h, check_back sg A hA]
theorem nDigits_le : ∀ (k D : Nat), D < 10 ^ (k + 1) → Lib.nDigits D ≤ k + 1 := by
  intro k
  induction k with
  | zero => intro D h; rw [Lib.nDigits_small (by simpa using h)]; omega
  | succ k ih =>
    intro D h
    by_cases g : D < 10
    · rw [Lib.nDigits_small g]; omega
    · rw [Lib.nDigits_big g]
      have := ih (D / 10) (by rw [Nat.pow_succ] at h; omega)
      omega
theorem noughty_len (A a b : Nat) (hA : A ≤ 1099511627776) (ha : a ≤ 3) (hb : b ≤ 3) : (noughty A a b).length ≤ 29 := by
  have h1 : Lib.nDigits (A / 256) ≤ 10 := nDigits_le 9 _ (by have : (10 : Nat) ^ (9 + 1) = 10000000000 := by decide
                                                             omega)
  have h2 := frac_len (show A % 256 < 256 by omega)
  unfold noughty prW
  simp only [List.length_append, List.length_replicate, Lib.decDigits_length]
  split
  · simp; omega
  · simp; omega
theorem dec_head (D : Nat) : ∃ c t, Lib.decDigits D = c :: t ∧ c ≠ 45 := by
  induction D using Nat.strongRecOn with
  | ind D ih =>
    by_cases h : D < 10
    · exact ⟨_, [], Lib.decDigits_one h, by
        intro g
        have := (digB_yes D h).2
        rw [g] at this
        have e : (45 : UInt8).toNat = 45 := rfl
        omega⟩
    · obtain ⟨c, t, e, hc⟩ := ih (D / 10) (by omega)
      exact ⟨c, _, by rw [Lib.decDigits, dif_neg h, e]; rfl, hc⟩
theorem noughty_head (A a b : Nat) : (noughty A a b).head? ≠ some 45 := by
  unfold noughty prW
  cases a with
  | zero =>
    obtain ⟨c, t, e, hc⟩ := dec_head (A / 256)
    rw [e]; simp; exact hc
  | succ a => rw [List.replicate_succ]; simp
/-- What is printed, with noughts ahead and behind, is parsed back. -/
theorem parse_back (n : Int) (a b : Nat) (hn : -1099511627776 ≤ n ∧ n ≤ 1099511627776) (ha : a ≤ 3) (hb : b ≤ 3) :
    parseV ((if n < 0 then [45] else []) ++ noughty n.natAbs a b) = .tuple #[.int .i64 n, .int .i64 0] := by
  have hA : n.natAbs ≤ 1099511627776 := by omega
  have hl := noughty_len n.natAbs a b hA ha hb
  by_cases h : n < 0
  · rw [if_pos h]
    show parseV (45 :: noughty n.natAbs a b) = _
    unfold parseV
    rw [if_neg (by simp; omega), if_pos (List.head?_cons)]
    show p1 (-1) (noughty n.natAbs a b) 0 0 = _
    rw [p1_back (-1) _ a b hA, show (-1 : Int) * (n.natAbs : Int) = n from by omega]
  · rw [if_neg h]
    show parseV (noughty n.natAbs a b) = _
    unfold parseV
    rw [if_neg (by omega), if_neg (noughty_head _ a b), p1_back 1 _ a b hA, show (1 : Int) * (n.natAbs : Int) = n from by omega]
theorem noughty_0 (A : Nat) : noughty A 0 0 = prW A := by unfold noughty; simp
theorem pr_back (n : Int) (hn : -1099511627776 ≤ n ∧ n ≤ 1099511627776) : parseV (pr n) = .tuple #[.int .i64 n, .int .i64 0] := by
  have := parse_back n 0 0 hn (by omega) (by omega)
  rw [noughty_0] at this
  exact this
end Go.Proofs.YtflnchbamlcgaaaDoor
