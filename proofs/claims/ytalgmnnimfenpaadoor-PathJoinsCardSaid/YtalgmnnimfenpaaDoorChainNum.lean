/- Subpaths that hang together, segment by segment; how many there are; shifted moves7: in numbers alone. -/
import Derived.Test.YtalgmnnimfenpaaDoorPathMore
namespace Go.Proofs.YtalgmnnimfenpaaDoor
set_option linter.unusedVariables false
set_option linter.unusedSimpArgs false

def endAt (p : Pnt) (l : List SegV) : Pnt := l.foldl (fun _ g => endV g) p
theorem endAt_take {p : Pnt} {l : List SegV} {k : Nat} {g : SegV} (h : l[k]? = some g) : endAt p (l.take (k + 1)) = endV g := by
  have hk := (List.getElem?_eq_some_iff.1 h).1
  rw [List.take_succ_eq_append_getElem hk, (List.getElem?_eq_some_iff.1 h).2]
  unfold endAt
  rw [List.foldl_append]
  rfl
theorem chain_end : ∀ (l : List SegV) (p e : Pnt), Chain p l e → endAt p l = e
  | [], p, e, h => h
  | g :: t, p, e, h => chain_end t (endV g) e h.2.2
theorem chain_at : ∀ (l : List SegV) (p e : Pnt) (k : Nat) (g : SegV), Chain p l e → l[k]? = some g → g.1.1 = endAt p (l.take k) ∧ g = segV g.1.1 (segPs g) ∧ (g.2 = 2 ∨ g.2 = 3 ∨ g.2 = 4)
  | [], p, e, k, g, h, hk => by simp at hk
  | x :: t, p, e, 0, g, h, hk => by
    obtain rfl : x = g := by simpa using hk
    obtain ⟨h1, ⟨h2, h3⟩, h4⟩ := h
    exact ⟨h1, by rw [h1]; exact h2, h3⟩
  | x :: t, p, e, k + 1, g, h, hk => chain_at t (endV x) e k g h.2.2 (by simpa using hk)
def moves7 (l : List Int) : Nat := l.countP (· == 1)
theorem moves7_take {l : List Int} {k : Nat} {v : Int} (h : l[k]? = some v) : moves7 (l.take (k + 1)) = moves7 (l.take k) + if v = 1 then 1 else 0 := by
  have hk := (List.getElem?_eq_some_iff.1 h).1
  rw [List.take_succ_eq_append_getElem hk, (List.getElem?_eq_some_iff.1 h).2]
  unfold moves7
  rw [List.countP_append]
  by_cases hv : v = 1
  · subst hv; rfl
  · rw [if_neg hv]
    have : ([v].countP (· == 1)) = 0 := by simp [hv]
    rw [this]
theorem run_ones : ∀ (vs : List Int) (s : StV), (runP vs s).1.length = s.1.length + moves7 vs
  | [], s => rfl
  | v :: t, s => by
    have h1 := run_ones t (stepP s v)
    rw [step_len] at h1
    show (runP t (stepP s v)).1.length = _
    rw [h1]
    unfold moves7
    rw [List.countP_cons]
    by_cases hv : v = 1
    · subst hv; simp; omega
    · simp [hv]
theorem split_ones (vs : List Int) (ps : List Pnt) : (splitV vs ps).length = moves7 vs := by
  have := run_ones vs ([], zP, ps)
  unfold splitV
  simpa using this
/-! ## Near points -/
theorem split_near {vs : List Int} {ps : List Pnt} (h : pathE vs ps = 0) : ∀ p ∈ joinPs (splitV vs ps), farV p = false := by
  obtain ⟨_, _, _, h4⟩ := check_ok.1 h
  have hn : NearS ([], zP, ps) := by
    refine ⟨(fun p hp => by cases hp), fun p hp => ?_⟩
    cases hf : farV p
    · rfl
    · rw [List.any_eq_true.2 ⟨p, hp, hf⟩] at h4; cases h4
  exact (near_run vs _ hn).1
theorem near_start {l : List SubV} (h : ∀ p ∈ joinPs l, farV p = false) {x : SubV} (hx : x ∈ l) : farV x.1 = false :=
  h _ (List.mem_flatMap.2 ⟨x, hx, by simp [subPs]⟩)
theorem near_segs {l : List SubV} (h : ∀ p ∈ joinPs l, farV p = false) {x : SubV} (hx : x ∈ l) {g : SegV} (hg : g ∈ x.2.1) : ∀ p ∈ segPs g, farV p = false := fun p hp =>
  h _ (List.mem_flatMap.2 ⟨x, hx, by unfold subPs; exact List.mem_cons_of_mem _ (List.mem_flatMap.2 ⟨g, hg, hp⟩)⟩)
theorem end_mem {g : SegV} (h : g.2 = 2 ∨ g.2 = 3 ∨ g.2 = 4) : endV g ∈ segPs g := by
  unfold endV segPs
  rcases h with h | h | h <;> rw [h] <;> simp
theorem near_endAt {p : Pnt} (hp : farV p = false) : ∀ (l : List SegV), (∀ g ∈ l, (g.2 = 2 ∨ g.2 = 3 ∨ g.2 = 4) ∧ ∀ q ∈ segPs g, farV q = false) → farV (endAt p l) = false := by
  intro l
  induction l generalizing p with
  | nil => intro _; exact hp
  | cons g t ih =>
    intro h
    obtain ⟨h1, h2⟩ := h g (by simp)
    exact ih (h2 _ (end_mem h1)) (fun x hx => h x (by simp [hx]))
/-- All points of a segment that was split are near. -/
theorem split_seg_near {vs : List Int} {ps : List Pnt} (h : pathE vs ps = 0) {x : SubV} (hx : x ∈ splitV vs ps) {k : Nat} {g : SegV} (hg : x.2.1[k]? = some g) :
    farV g.1.1 = false ∧ ∀ p ∈ segPs g, farV p = false := by
  have hn := split_near h
  obtain ⟨e, hch, _⟩ := split_ok h x hx
  have each : ∀ g ∈ x.2.1, (g.2 = 2 ∨ g.2 = 3 ∨ g.2 = 4) ∧ ∀ q ∈ segPs g, farV q = false := fun g hg => by
    obtain ⟨j, hj⟩ := List.getElem?_of_mem hg
    exact ⟨(chain_at _ _ _ _ _ hch hj).2.2, near_segs hn hx hg⟩
  refine ⟨?_, near_segs hn hx (List.mem_of_getElem? hg)⟩
  rw [(chain_at _ _ _ _ _ hch hg).1]
  exact near_endAt (near_start hn hx) _ (fun g hg => each g (List.mem_of_mem_take hg))
theorem far_no {p : Pnt} (h : farV p = false) : (-268435456 ≤ p.1 ∧ p.1 ≤ 268435456) ∧ (-268435456 ≤ p.2 ∧ p.2 ≤ 268435456) := by
  unfold farV at h; exact Classical.not_not.1 (of_decide_eq_false h)
/-! ## Shifted -/
theorem check_shift {vs : List Int} {ps : List Pnt} (h : pathE vs ps = 0) (b : Pnt) : pathE vs (ps.map (shP b)) = 0 ∨ pathE vs (ps.map (shP b)) = 72 := by
  obtain ⟨h1, h2, h3, h4⟩ := check_ok.1 h
  unfold pathE
  rw [if_neg (by omega), if_neg (by simpa using h2), if_neg (by rw [List.length_map]; simpa using h3)]
  cases (ps.map (shP b)).any farV
  · exact .inl rfl
  · exact .inr rfl
end Go.Proofs.YtalgmnnimfenpaaDoor
