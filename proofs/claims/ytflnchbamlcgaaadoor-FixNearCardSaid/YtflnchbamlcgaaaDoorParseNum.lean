/- The landed Parse over a list of bytes, by steps of its own, and that it answers what the reference answers. -/
import Derived.Test.YtflnchbamlcgaaaDoorFixNum
namespace Go.Proofs.YtflnchbamlcgaaaDoor
open Go.RowKit
set_option linter.unusedVariables false
set_option linter.unusedSimpArgs false
set_option maxHeartbeats 2000000

/-- The digit that a byte tells. -/
def dg (c : UInt8) : Int := (c.toNat : Int) - 48
/-- A number of pixels with one digit more; at most 2^40. -/
def grow1 (n : Int) (c : UInt8) : Int := if 1099511627776 < n * 10 + dg c then 1099511627776 else n * 10 + dg c
/-- The whole pixels' digits behind the first one, and what is left of the text. -/
def pxl : List UInt8 → Int → Int × List UInt8
  | [], n => (n, [])
  | c :: t, n => if digB c.toNat then pxl t (grow1 n c) else (n, c :: t)
/-- The places behind the first one, and what is left of the text; none where a place beyond the eighth is no nought. -/
def ptl : List UInt8 → Int → Int → Option (Int × List UInt8)
  | [], n, u => some (n, [])
  | c :: t, n, u => if digB c.toNat then (if u / 10 = 0 ∧ dg c ≠ 0 then none else ptl t (n + dg c * (u / 10)) (u / 10)) else some (n, c :: t)
/-- Whole parts of that many hundred-millionths. -/
def whole (n : Int) (r : List UInt8) : Option (Int × List UInt8) := if n % 390625 = 0 then some (n / 390625, r) else none
def partsL : List UInt8 → Option (Int × List UInt8)
  | [] => none
  | c :: t => if digB c.toNat then (ptl t (dg c * 10000000) 10000000).bind (fun x => whole x.1 x.2) else none
def endL (sg : Int) (n : Int) (r : List UInt8) : Value := if r = [] ∧ n ≤ 1099511627776 then .tuple #[.int .i64 (sg * n), .int .i64 0] else pErr
def afterL (sg n : Int) (r : List UInt8) : Value :=
  if r.head? = some 46 then
    match partsL r.tail with
    | none => pErr
    | some x => endL sg (n * 256 + x.1) x.2
  else endL sg (n * 256) r
def numberL (sg : Int) : List UInt8 → Value
  | [] => pErr
  | c :: t => if digB c.toNat then afterL sg (pxl t (dg c)).1 (pxl t (dg c)).2 else pErr
def parseL (l : List UInt8) : Value := if l.head? = some 45 then numberL (-1) l.tail else numberL 1 l

theorem digB_iff (c : UInt8) : digB (c.toNat : Int) = true ↔ (48 ≤ c.toNat ∧ c.toNat ≤ 57) := by
  unfold digB; simp; omega
theorem dg_bd {c : UInt8} (h : digB (c.toNat : Int) = true) : 0 ≤ dg c ∧ dg c ≤ 9 := by
  rw [digB_iff] at h; unfold dg; omega
theorem dg_0 (c : UInt8) : dg c = 0 ↔ c = 48 := by
  unfold dg
  constructor
  · intro h
    exact UInt8.toNat_inj.1 (show c.toNat = 48 by omega)
  · rintro rfl; rfl

theorem endL_check (sg wh pt : Int) : endL sg (wh * 256 + pt) [] = checkV sg wh pt := by
  unfold endL checkV pErr
  by_cases h : wh * 256 + pt > 1099511627776
  · rw [if_pos h, if_neg (by rintro ⟨_, h2⟩; omega)]
  · rw [if_neg h, if_pos ⟨rfl, by omega⟩]
theorem endL_cons (sg n : Int) (c : UInt8) (t : List UInt8) : endL sg n (c :: t) = pErr := by
  unfold endL; rw [if_neg (by rintro ⟨h, _⟩; cases h)]

/-- Behind one digit at least, the reference reads on as the pixels' loop does. -/
theorem p1_more (sg : Int) : ∀ (l : List UInt8) (wh : Int) (n : Nat), 1 ≤ n →
    p1 sg l wh n = (match (pxl l wh).2 with | [] => checkV sg (pxl l wh).1 0 | c :: t => p2 sg (pxl l wh).1 (c :: t)) := by
  intro l
  induction l with
  | nil => intro wh n h; rw [p1, if_neg (by omega)]; rfl
  | cons c t ih =>
    intro wh n h
    by_cases hd : digB c.toNat = true
    · rw [p1, if_pos hd, pxl, if_pos hd]
      exact ih _ _ (by omega)
    · rw [p1, if_neg hd, if_neg (by omega), pxl, if_neg hd]

/-- All of these bytes are digits. -/
def AllD (l : List UInt8) : Prop := ∀ c ∈ l, digB (c.toNat : Int) = true
/-- The number that digits tell behind N. -/
def val : List UInt8 → Int → Int
  | [], N => N
  | c :: t, N => val t (N * 10 + dg c)

theorem ptl_digits : ∀ (s : List UInt8) (j : Nat) (N : Int), AllD s → s.length ≤ j → ptl s (N * 10 ^ j) (10 ^ j) = some (val s N * 10 ^ (j - s.length), []) := by
  intro s
  induction s with
  | nil => intro j N _ _; rfl
  | cons c t ih =>
    intro j N h hl
    obtain ⟨i, rfl⟩ : ∃ i, j = i + 1 := ⟨j - 1, by simp at hl; omega⟩
    have hc := h c (by simp)
    have e1 : (10 : Int) ^ (i + 1) / 10 = 10 ^ i := by rw [Int.pow_succ]; exact Int.mul_ediv_cancel _ (by omega)
    have h0 : (10 : Int) ^ i ≠ 0 := by have := Int.pow_pos (n := (10 : Int)) (m := i) (by omega); omega
    rw [ptl, if_pos hc, e1, if_neg (by rintro ⟨h1, _⟩; exact h0 h1)]
    have e2 : N * 10 ^ (i + 1) + dg c * 10 ^ i = (N * 10 + dg c) * 10 ^ i := by
      rw [Int.pow_succ, Int.add_mul, Int.mul_assoc, Int.mul_comm 10 (10 ^ i)]
    rw [e2, ih i _ (fun x hx => h x (by simp [hx])) (by simpa using hl)]
    simp only [val, List.length_cons, Nat.add_sub_add_right]
theorem ptl_noughts : ∀ (k : Nat) (n u : Int), ptl (List.replicate k 48) n u = some (n, []) := by
  intro k
  induction k with
  | zero => intro n u; rfl
  | succ k ih =>
    intro n u
    have e : dg 48 = 0 := rfl
    rw [List.replicate_succ, ptl, if_pos (by decide), if_neg (by rintro ⟨_, h⟩; exact h e), e, Int.zero_mul, Int.add_zero]
    exact ih _ _
theorem ptl_append : ∀ (a b : List UInt8) (n u m : Int), ptl a n u = some (m, []) → ∃ u', ptl (a ++ b) n u = ptl b m u' := by
  intro a
  induction a with
  | nil => intro b n u m h; simp only [ptl, Option.some.injEq, Prod.mk.injEq] at h; exact ⟨u, by rw [← h.1]; rfl⟩
  | cons c t ih =>
    intro b n u m h
    rw [ptl] at h
    by_cases hd : digB (c.toNat : Int) = true
    · rw [if_pos hd] at h
      by_cases hz : u / 10 = 0 ∧ dg c ≠ 0
      · rw [if_pos hz] at h; cases h
      · rw [if_neg hz] at h
        obtain ⟨u', e⟩ := ih b _ _ _ h
        exact ⟨u', by rw [List.cons_append, ptl, if_pos hd, if_neg hz, e]⟩
    · rw [if_neg hd] at h; simp at h
theorem ptl_far : ∀ (s : List UInt8) (n u : Int), AllD s → s ≠ [] → s.getLast? ≠ some 48 → 0 ≤ u → u < 10 ^ s.length → ∀ b, ptl (s ++ b) n u = none := by
  intro s
  induction s with
  | nil => intro n u _ h; exact absurd rfl h
  | cons c t ih =>
    intro n u h hne hl h0 hu b
    have hc := h c (by simp)
    rw [List.cons_append, ptl, if_pos hc]
    by_cases ht : t = []
    · subst ht
      have hu : u < 10 := by simpa using hu
      rw [if_pos ⟨by omega, fun hz => hl (by rw [(dg_0 c).1 hz]; rfl)⟩]
    · by_cases hz : u / 10 = 0 ∧ dg c ≠ 0
      · rw [if_pos hz]
      · rw [if_neg hz]
        refine ih _ _ (fun x hx => h x (by simp [hx])) ht ?_ (by omega) ?_ b
        · rwa [List.getLast?_cons_of_ne_nil ht] at hl
        · rw [List.length_cons, Int.pow_succ] at hu
          omega
theorem ptl_rest : ∀ (s : List UInt8) (n u : Int), ¬ AllD s → ptl s n u = none ∨ ∃ m c t, ptl s n u = some (m, c :: t) := by
  intro s
  induction s with
  | nil => intro n u h; exact absurd (fun c hc => by cases hc) h
  | cons c t ih =>
    intro n u h
    rw [ptl]
    by_cases hd : digB (c.toNat : Int) = true
    · rw [if_pos hd]
      by_cases hz : u / 10 = 0 ∧ dg c ≠ 0
      · rw [if_pos hz]; exact .inl rfl
      · rw [if_neg hz]
        refine ih _ _ (fun ha => h fun x hx => ?_)
        rcases List.mem_cons.1 hx with rfl | hx
        · exact hd
        · exact ha x hx
    · rw [if_neg hd]; exact .inr ⟨_, _, _, rfl⟩

theorem p4_digits (sg wh : Int) : ∀ (s : List UInt8) (num ten : Int), AllD s →
    p4 sg wh s num ten = if val s num * 256 % (ten * 10 ^ s.length) = 0 then checkV sg wh (val s num * 256 / (ten * 10 ^ s.length)) else pErr := by
  intro s
  induction s with
  | nil => intro num ten _; simp only [p4, val, List.length_nil, Int.pow_zero, Int.mul_one]
  | cons c t ih =>
    intro num ten h
    rw [p4, if_pos (h c (by simp)), ih _ _ (fun x hx => h x (by simp [hx]))]
    have e : ten * 10 * 10 ^ t.length = ten * 10 ^ (c :: t).length := by rw [List.length_cons, Int.pow_succ, Int.mul_assoc, Int.mul_comm 10 (10 ^ t.length)]
    rw [e]; rfl
theorem p4_other (sg wh : Int) : ∀ (s : List UInt8) (num ten : Int), ¬ AllD s → p4 sg wh s num ten = pErr := by
  intro s
  induction s with
  | nil => intro num ten h; exact absurd (fun c hc => by cases hc) h
  | cons c t ih =>
    intro num ten h
    rw [p4]
    by_cases hd : digB (c.toNat : Int) = true
    · rw [if_pos hd]
      refine ih _ _ (fun ha => h fun x hx => ?_)
      rcases List.mem_cons.1 hx with rfl | hx
      · exact hd
      · exact ha x hx
    · rw [if_neg hd]

theorem strip_form (t : List UInt8) (h : t ≠ []) : ∃ k, t = strip t ++ List.replicate k 48 ∧ strip t ≠ [] ∧ (1 < (strip t).length → (strip t).getLast? ≠ some 48) := by
  generalize hn : t.length = n
  induction n using Nat.strongRecOn generalizing t with
  | ind n ih =>
    by_cases hs : 1 < t.length ∧ t.getLast? = some 48
    · have e : strip t = strip t.dropLast := by conv => lhs; rw [strip, dif_pos hs]
      have hd : t.dropLast ≠ [] := by
        intro h0
        have := congrArg List.length h0
        simp at this; omega
      obtain ⟨k, h1, h2, h3⟩ := ih t.dropLast.length (by simp; omega) t.dropLast hd rfl
      rw [e]
      refine ⟨k + 1, ?_, h2, h3⟩
      have hl : t = t.dropLast ++ [48] := by
        obtain ⟨ys, e⟩ := List.getLast?_eq_some_iff.1 hs.2
        rw [e, List.dropLast_concat]
      rw [List.replicate_succ', ← List.append_assoc, ← h1]
      exact hl
    · have e : strip t = t := by rw [strip, dif_neg hs]
      rw [e]
      exact ⟨0, by simp, h, fun h1 h2 => hs ⟨h1, h2⟩⟩

theorem allD_append {a b : List UInt8} : AllD (a ++ b) ↔ AllD a ∧ AllD b := by
  unfold AllD
  constructor
  · intro h
    exact ⟨fun c hc => h c (by simp [hc]), fun c hc => h c (by simp [hc])⟩
  · rintro ⟨h1, h2⟩ c hc
    rcases List.mem_append.1 hc with h | h
    · exact h1 c h
    · exact h2 c h
theorem allD_noughts (k : Nat) : AllD (List.replicate k 48) := by
  intro c hc
  rw [List.eq_of_mem_replicate hc]; decide

theorem tenth (v : Int) (k : Nat) (hk : k ≤ 8) :
    (v * 256 % (1 * 10 ^ k) = 0 ↔ v * 10 ^ (8 - k) % 390625 = 0) ∧ v * 256 / (1 * 10 ^ k) = v * 10 ^ (8 - k) / 390625 := by
  have e1 : (10 : Int) ^ (8 - k) * 10 ^ k = 390625 * 256 := by
    rw [← Int.pow_add, show 8 - k + k = 8 by omega]; decide
  have p1 : (0 : Int) < 10 ^ (8 - k) := Int.pow_pos (by omega)
  have e2 : v * 256 * 10 ^ (8 - k) = v * 10 ^ (8 - k) * 256 := by rw [Int.mul_assoc, Int.mul_comm 256, ← Int.mul_assoc]
  have e3 : v * 256 / 10 ^ k = v * 10 ^ (8 - k) / 390625 := by
    rw [← Int.mul_ediv_mul_of_pos_left (v * 256) (10 ^ k) p1, e2, Int.mul_comm (10 ^ k), e1, Int.mul_ediv_mul_of_pos_left _ _ (by omega)]
  have e4 : v * 256 % 10 ^ k * 10 ^ (8 - k) = v * 10 ^ (8 - k) % 390625 * 256 := by
    rw [Int.mul_comm (v * 256 % 10 ^ k), ← Int.mul_emod_mul_of_pos (v * 256) (10 ^ k) p1, Int.mul_comm (10 ^ (8 - k)) (v * 256), e2, e1,
      Int.mul_comm (v * 10 ^ (8 - k)) 256, Int.mul_comm 390625 256, Int.mul_emod_mul_of_pos _ _ (by omega), Int.mul_comm]
  rw [Int.one_mul]
  refine ⟨⟨fun h => ?_, fun h => ?_⟩, e3⟩
  · rw [h, Int.zero_mul] at e4; omega
  · rw [h, Int.zero_mul] at e4
    rcases Int.mul_eq_zero.1 e4 with h | h
    · exact h
    · omega

theorem p3_parts (sg wh : Int) (t : List UInt8) (h : t ≠ []) :
    p3 sg wh t = (match partsL t with | none => pErr | some x => endL sg (wh * 256 + x.1) x.2) := by
  obtain ⟨k, h1, h2, h3⟩ := strip_form t h
  obtain ⟨c, s, hs⟩ : ∃ c s, strip t = c :: s := by
    cases hh : strip t with
    | nil => exact absurd hh h2
    | cons c s => exact ⟨c, s, rfl⟩
  have ht : t = c :: (s ++ List.replicate k 48) := by rw [hs] at h1; exact h1
  by_cases ha : AllD (c :: s)
  · have hc : digB (c.toNat : Int) = true := ha c (by simp)
    have has : AllD s := fun x hx => ha x (by simp [hx])
    unfold p3
    rw [hs, ht, partsL, if_pos hc]
    by_cases hl : 8 < (c :: s).length
    · have hl2 : 8 ≤ s.length := by simp at hl; omega
      have hlast : s.getLast? ≠ some 48 := by
        have := h3 (by rw [hs]; omega)
        rw [hs] at this
        rwa [List.getLast?_cons_of_ne_nil (by intro h0; rw [h0] at hl2; simp at hl2)] at this
      have hu : (10000000 : Int) < 10 ^ s.length := by
        obtain ⟨j, hj⟩ : ∃ j, s.length = 8 + j := ⟨s.length - 8, by omega⟩
        rw [hj, Int.pow_add]
        have := Int.pow_pos (n := (10 : Int)) (m := j) (by omega)
        have e8 : (10 : Int) ^ 8 = 100000000 := by decide
        rw [e8]; omega
      rw [if_pos hl, ptl_far s _ _ has (by intro h0; rw [h0] at hl2; simp at hl2) hlast (by omega) hu]
      rfl
    · have hl2 : s.length ≤ 7 := by simp at hl; omega
      have hp := ptl_digits s 7 (dg c) has hl2
      rw [show (10 : Int) ^ 7 = 10000000 by decide] at hp
      obtain ⟨u', e⟩ := ptl_append s (List.replicate k 48) _ _ _ hp
      have hv : val (c :: s) 0 = val s (dg c) := by rw [val, Int.zero_mul, Int.zero_add]
      obtain ⟨t1, t2⟩ := tenth (val s (dg c)) (c :: s).length (by omega)
      have e7 : 8 - (c :: s).length = 7 - s.length := by simp
      rw [e7] at t1 t2
      rw [if_neg hl, e, ptl_noughts, p4_digits sg wh _ _ _ ha, hv, t2, Option.bind_some]
      unfold whole
      by_cases hz : val s (dg c) * 10 ^ (7 - s.length) % 390625 = 0
      · rw [if_pos (t1.2 hz), if_pos hz]
        exact (endL_check _ _ _).symm
      · rw [if_neg (fun hh => hz (t1.1 hh)), if_neg hz]
  · have hp3 : p3 sg wh t = pErr := by
      unfold p3
      split
      · rfl
      · rw [hs]; exact p4_other _ _ _ _ _ ha
    rw [hp3, ht, partsL]
    by_cases hc : digB (c.toNat : Int) = true
    · rw [if_pos hc]
      have hn : ¬ AllD (s ++ List.replicate k 48) := fun hh => ha fun x hx => by
        rcases List.mem_cons.1 hx with rfl | hx
        · exact hc
        · exact (allD_append.1 hh).1 x hx
      rcases ptl_rest _ (dg c * 10000000) 10000000 hn with e | ⟨m, c2, t2, e⟩
      · rw [e]; rfl
      · rw [e, Option.bind_some]
        unfold whole
        by_cases hz : m % 390625 = 0
        · rw [if_pos hz]
          exact (endL_cons _ _ _ _).symm
        · rw [if_neg hz]
    · rw [if_neg hc]

theorem after_p2 (sg n : Int) (c : UInt8) (t : List UInt8) : p2 sg n (c :: t) = afterL sg n (c :: t) := by
  unfold afterL
  rw [p2]
  by_cases hc : c = 46
  · subst hc
    rw [if_pos (show (46 :: t).head? = some 46 from rfl)]
    by_cases ht : t = []
    · subst ht; rw [if_neg (by rintro ⟨_, h⟩; exact h rfl)]; rfl
    · rw [if_pos ⟨rfl, ht⟩]; exact p3_parts sg n t ht
  · rw [if_neg (by rintro ⟨h, _⟩; exact hc h), if_neg (by simpa using hc), endL_cons]
theorem number_p1 (sg : Int) (l : List UInt8) : p1 sg l 0 0 = numberL sg l := by
  cases l with
  | nil => rfl
  | cons c t =>
    rw [p1, numberL]
    by_cases hd : digB (c.toNat : Int) = true
    · have hb := dg_bd hd
      have e0 : (0 : Int) * 10 + ((c.toNat : Int) - 48) = dg c := by unfold dg; omega
      rw [if_pos hd, if_pos hd, e0, if_neg (by omega), p1_more sg t _ _ (by omega)]
      cases hr : (pxl t (dg c)).2 with
      | nil =>
        simp only [hr]
        rw [← endL_check, Int.add_zero]; rfl
      | cons c2 t2 =>
        simp only [hr]
        exact after_p2 _ _ _ _
    · rw [if_neg hd, if_neg hd, if_pos rfl]
theorem parseV_L (l : List UInt8) (h : ¬ 30 < l.length) : parseV l = parseL l := by
  unfold parseV parseL
  rw [if_neg h, number_p1, number_p1]
end Go.Proofs.YtflnchbamlcgaaaDoor
