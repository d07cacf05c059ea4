/- A path that came in; the laws' first steps with it. -/
import Derived.Test.YtalgmnnimfenpaaDoorShown7
import Derived.Test.YtalgmnnimfenpaaDoorBnd7
import Derived.Test.YtalgmnnimfenpaaDoorRef7B
import Derived.Test.YtalgmnnimfenpaaDoorPathIn
namespace Go.Proofs.YtalgmnnimfenpaaDoor
open Go.RowKit
set_option linter.unusedVariables false
set_option linter.unusedSimpArgs false
set_option maxHeartbeats 4000000
set_option maxRecDepth 100000

theorem bnd_ok {n m : Nat} (h : bnd7 n m = true) : n ≤ 520 ∧ m ≤ 1600 := by
  unfold bnd7 at h; simpa using h
theorem near_of_check {vs : List Int} {ps : List Pnt} (h : pathE vs ps = 0) : ∀ p ∈ ps, (-268435456 ≤ p.1 ∧ p.1 ≤ 268435456) ∧ (-268435456 ≤ p.2 ∧ p.2 ≤ 268435456) := fun p hp => by
  obtain ⟨_, _, _, h4⟩ := check_ok.1 h
  cases hf : farV p
  · unfold farV at hf; exact Classical.not_not.1 (of_decide_eq_false hf)
  · rw [List.any_eq_true.2 ⟨p, hp, hf⟩] at h4; cases h4
theorem needs_le : ∀ vs : List Int, needs vs ≤ 3 * (vs.length : Int)
  | [] => by simp [needs]
  | v :: t => by
    have h1 := needs_le t
    have h2 := takes_bd v
    unfold needs
    rw [List.length_cons]
    omega
theorem joinPs_le (l : List SubV) : (joinPs l).length ≤ 3 * (joinVs l).length := by
  have h1 := needs_join l
  have h2 := needs_le (joinVs l)
  omega
/-- How many segments a subpath has, that was split. -/
theorem seg_len_step (s : StV) (v : Int) (k : Nat) (h : ∀ x ∈ s.1, x.2.1.length ≤ k) : ∀ x ∈ (stepP s v).1, x.2.1.length ≤ k + 1 := by
  obtain ⟨out, a, rest⟩ := s
  dsimp only at h
  unfold stepP
  by_cases h1 : v = 1
  · rw [if_pos h1]; dsimp only
    intro x hx
    rcases List.mem_append.1 hx with e | e
    · have := h x e; omega
    · rw [List.mem_singleton] at e; subst e; simp
  · rw [if_neg h1]
    by_cases h5 : v = 5
    · rw [if_pos h5]; dsimp only
      rcases snoc_cases out with rfl | ⟨o, ⟨p, l, c⟩, rfl⟩
      · intro x hx; simp [shut] at hx
      · rw [shut_snoc]
        have hl := h (p, l, c) (by simp)
        dsimp only at hl
        intro x hx
        rcases List.mem_append.1 hx with e | e
        · have := h x (List.mem_append_left _ e); omega
        · rw [List.mem_singleton] at e; subst e; dsimp only; split
          · omega
          · rw [List.length_append, List.length_cons, List.length_nil]; omega
    · rw [if_neg h5]; dsimp only
      rcases snoc_cases out with rfl | ⟨o, ⟨p, l, c⟩, rfl⟩
      · intro x hx; simp [addSeg] at hx
      · rw [addSeg_snoc]
        have hl := h (p, l, c) (by simp)
        dsimp only at hl
        intro x hx
        rcases List.mem_append.1 hx with e | e
        · have := h x (List.mem_append_left _ e); omega
        · rw [List.mem_singleton] at e; subst e; dsimp only
          rw [List.length_append, List.length_cons, List.length_nil]; omega
theorem seg_len_run : ∀ (vs : List Int) (s : StV) (k : Nat), (∀ x ∈ s.1, x.2.1.length ≤ k) → ∀ x ∈ (runP vs s).1, x.2.1.length ≤ k + vs.length
  | [], s, k, h => h
  | v :: t, s, k, h => fun x hx => by
    have := seg_len_run t (stepP s v) (k + 1) (seg_len_step s v k h) x hx
    rw [List.length_cons]; omega
theorem split_segs (vs : List Int) (ps : List Pnt) : ∀ x ∈ splitV vs ps, x.2.1.length ≤ vs.length := fun x hx => by
  have := seg_len_run vs ([], zP, ps) 0 (fun x hx => by cases hx) x hx
  omega
theorem out_len_step (s : StV) (v : Int) : (stepP s v).1.length ≤ s.1.length + 1 := by
  rw [step_len]; split <;> omega
theorem out_len_run : ∀ (vs : List Int) (s : StV), (runP vs s).1.length ≤ s.1.length + vs.length
  | [], s => Nat.le_refl _
  | v :: t, s => by
    have h1 := out_len_run t (stepP s v)
    have h2 := out_len_step s v
    show (runP t (stepP s v)).1.length ≤ _
    rw [List.length_cons]; omega
theorem split_few (vs : List Int) (ps : List Pnt) : (splitV vs ps).length ≤ vs.length := by
  have := out_len_run vs ([], zP, ps)
  unfold splitV
  simpa using this
theorem splitE_few (vs : List Int) (ps : List Pnt) : (splitE vs ps).length ≤ vs.length := by
  unfold splitE; split
  · exact split_few vs ps
  · simp
theorem splitE_segs (vs : List Int) (ps : List Pnt) : ∀ x ∈ splitE vs ps, x.2.1.length ≤ vs.length := by
  unfold splitE; split
  · exact split_segs vs ps
  · intro x hx; cases hx
end Go.Proofs.YtalgmnnimfenpaaDoor
