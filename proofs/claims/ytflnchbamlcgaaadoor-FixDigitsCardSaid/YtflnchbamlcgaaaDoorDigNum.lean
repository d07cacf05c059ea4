/- What is printed: its digits, one by one. Plain facts. -/
import Derived.Test.YtflnchbamlcgaaaDoorFixNum
namespace Go.Proofs.YtflnchbamlcgaaaDoor
open Go.RowKit
set_option linter.unusedVariables false
set_option linter.unusedSimpArgs false
set_option maxHeartbeats 1000000

/-- All bytes of a list are digits. -/
def Digs (l : List UInt8) : Prop := ∀ c ∈ l, 48 ≤ c.toNat ∧ c.toNat ≤ 57
theorem digs_dec (D : Nat) : Digs (Lib.decDigits D) := by
  induction D using Nat.strongRecOn with
  | ind D ih =>
    by_cases h : D < 10
    · rw [Lib.decDigits_one h]
      intro c hc
      rw [List.mem_singleton] at hc
      rw [hc, (digB_yes D h).2]; omega
    · rw [Lib.decDigits, dif_neg h]
      intro c hc
      rcases List.mem_append.1 hc with g | g
      · exact ih (D / 10) (by omega) c g
      · rw [List.mem_singleton] at g
        rw [g, (digB_yes (D % 10) (by omega)).2]; omega
theorem dec_first (D : Nat) : ∃ c t, Lib.decDigits D = c :: t ∧ (t = [] ∨ c ≠ 48) := by
  induction D using Nat.strongRecOn with
  | ind D ih =>
    by_cases h : D < 10
    · exact ⟨_, [], Lib.decDigits_one h, .inl rfl⟩
    · obtain ⟨c, t, e, hc⟩ := ih (D / 10) (by omega)
      refine ⟨c, t ++ [UInt8.ofNat (48 + D % 10)], by rw [Lib.decDigits, dif_neg h, e]; rfl, .inr ?_⟩
      rcases hc with g | g
      · intro k
        by_cases h2 : D / 10 < 10
        · rw [Lib.decDigits_one h2] at e
          have e1 := (List.cons.inj e).1
          have := (digB_yes (D / 10) h2).2
          rw [e1, k] at this
          have : (48 : UInt8).toNat = 48 := rfl
          omega
        · have l := congrArg List.length e
          rw [Lib.decDigits_length, Lib.nDigits_big h2, g] at l
          have := Lib.nDigits_pos (D / 10 / 10)
          simp at l; omega
      · exact g
theorem digs_frac_fin : ∀ x : Fin 256, x.val ≠ 0 → (frac x.val).all (fun c => decide (48 ≤ c.toNat ∧ c.toNat ≤ 57)) = true ∧ 1 ≤ (frac x.val).length ∧ (frac x.val).length ≤ 8 ∧ (frac x.val).getLast? ≠ some 48 := by decide +kernel

/-- What is seen of a printed text l: d digits, then perhaps a point, and f digits more, the last of which is no nought. -/
structure Seen (l : List UInt8) (d f : Nat) : Prop where
  d1 : 1 ≤ d
  f8 : f ≤ 8
  len : l.length = d + (if f = 0 then 0 else f + 1)
  dig : ∀ k (h : k < l.length), k ≠ d → 48 ≤ l[k].toNat ∧ l[k].toNat ≤ 57
  dot : ∀ h : d < l.length, l[d].toNat = 46
  fst : ∀ h : 0 < l.length, d = 1 ∨ l[0].toNat ≠ 48
  lst : ∀ k (h : k < l.length), k + 1 = l.length → f = 0 ∨ l[k].toNat ≠ 48
theorem seen_prW (A : Nat) (hA : A < 18446744073709551616) : ∃ d f, Seen (prW A) d f ∧ (f = 0 ↔ A % 256 = 0) ∧ d ≤ 20 := by
  have h20 : (Lib.decDigits (A / 256)).length ≤ 20 := by rw [Lib.decDigits_length]; exact Lib.nDigits_le20 _ (by omega)
  obtain ⟨c, t, e, hc⟩ := dec_first (A / 256)
  have hD := digs_dec (A / 256)
  by_cases h : A % 256 = 0
  · refine ⟨(Lib.decDigits (A / 256)).length, 0, ?_, by simp [h], h20⟩
    have hp : prW A = Lib.decDigits (A / 256) := by unfold prW; rw [if_pos h]; simp
    rw [hp]
    refine ⟨by rw [e]; simp, by omega, by simp, fun k hk _ => hD _ (List.getElem_mem hk), fun h => absurd h (by omega), fun h0 => ?_, fun _ _ _ => .inl rfl⟩
    simp only [e]
    rcases hc with g | g
    · left; simp [g]
    · right; intro k; exact g (UInt8.toNat_inj.1 k)
  · have hx : A % 256 < 256 := by omega
    obtain ⟨h1, h2, h3, h4⟩ := digs_frac_fin ⟨A % 256, hx⟩ h
    simp only at h1 h2 h3 h4
    refine ⟨(Lib.decDigits (A / 256)).length, (frac (A % 256)).length, ?_, by constructor <;> intro <;> omega, h20⟩
    have hp : prW A = Lib.decDigits (A / 256) ++ (46 :: frac (A % 256)) := by unfold prW; rw [if_neg h]
    have hF : Digs (frac (A % 256)) := fun c hc => by simpa using List.all_eq_true.1 h1 c hc
    rw [hp]
    generalize frac (A % 256) = F at *
    generalize Lib.decDigits (A / 256) = P at *
    have hd1 : 1 ≤ P.length := by rw [e]; simp
    refine ⟨hd1, h3, by rw [if_neg (by omega)]; simp, fun k hk hn => ?_, fun hk => ?_, fun h0 => ?_, fun m hm hm2 => .inr ?_⟩
    · by_cases hlt : k < P.length
      · rw [List.getElem_append_left hlt]; exact hD _ (List.getElem_mem hlt)
      · rw [List.getElem_append_right (by omega)]
        obtain ⟨j, hj⟩ : ∃ j, k - P.length = j + 1 := ⟨k - P.length - 1, by omega⟩
        simp only [hj, List.getElem_cons_succ]
        exact hF _ (List.getElem_mem _)
    · rw [List.getElem_append_right (by omega)]
      simp
    · rw [List.getElem_append_left (by omega)]
      simp only [e]
      rcases hc with g | g
      · left; simp [g]
      · right; intro k; exact g (UInt8.toNat_inj.1 k)
    · have hm3 : m = P.length + F.length := by
        simp only [List.length_append, List.length_cons] at hm2; omega
      rw [List.getElem_append_right (by omega)]
      intro k
      apply h4
      obtain ⟨j, hj⟩ : ∃ j, F.length = j + 1 := ⟨F.length - 1, by omega⟩
      rw [List.getLast?_eq_getElem?, hj, Nat.add_sub_cancel, List.getElem?_eq_getElem (by omega)]
      refine congrArg some (UInt8.toNat_inj.1 ?_)
      simp only [show m - P.length = j + 1 from by omega, List.getElem_cons_succ] at k
      exact k
end Go.Proofs.YtflnchbamlcgaaaDoor
