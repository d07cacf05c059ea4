/- A path is split: the program's own answer. -/
import Derived.Test.YtalgmnnimfenpaaDoorPthN
import Derived.Test.YtalgmnnimfenpaaDoorPthC
import Derived.Test.YtalgmnnimfenpaaDoorPathMore
namespace Go.Proofs.YtalgmnnimfenpaaDoor.Q7
open Go.RowKit
set_option linter.unusedVariables false
set_option linter.unusedSimpArgs false
set_option maxHeartbeats 4000000
set_option maxRecDepth 100000

theorem step_any {G n c m d : Nat} {A B : Option Addr} {vo : Value} {p : Pnt} {w x : World} {v prev : Int} {t : List Int} {ps : List Pnt} {out : List SubV} (hG : G = w.heap.size) (hT : Tab7 w) (h : MS G (.slice A n c) (.slice B m d) vo p w x)
    (hA : Vals w G A ((v :: t).map iV)) (hn : n = t.length + 1) (hnc : n ≤ c) (hB : Cor w G B ps) (hm : m = ps.length) (hmd : m ≤ d) (hk : takesV v ≤ (m : Int)) (hn9 : n ≤ 1000000) (hd9 : d ≤ 9223372036854775807)
    (hc : chk prev (v :: t) = 0) (st : StS G out prev x vo) (hl : out.length ≤ 100000) (hl2 : ∀ y ∈ out, y.2.1.length ≤ 100000) :
    Calls Tryd.prog 31 #[.pointer (some ⟨G, 0, none⟩)] x fun e y => e = .returned (.tuple #[]) ∧ StepQ G n c m d (takesV v).toNat t (stepP (out, p, ps) v).2.2 (stepP (out, p, ps) v).1 v (stepP (out, p, ps) v).2.1 w y := by
  obtain ⟨h1, h2, h3⟩ := chk_cons hc
  rcases takes_cases h1 with rfl | rfl | hv
  · obtain ⟨cs, ho⟩ := st.outC
    exact step1_any hG hT h hA hn hnc hB hm hmd (by rw [takes_1] at hk; omega) hn9 hd9 ho hl
  · obtain ⟨o, q, sg, cs, sv, rfl, ho⟩ := st.open_ (h2 (by decide))
    have e : stepP (o ++ [(q, sg, false)], p, ps) 5 = (o ++ [(q, shutG p q sg, true)], p, ps.drop 0) := by
      show (shut p (o ++ [(q, sg, false)]), p, ps) = _
      rw [shut_snoc]; rfl
    rw [e]
    exact step5_any hG hT h hA hn hnc hB hm hmd (by omega) hn9 hd9 ho (by rw [List.length_append] at hl; omega) (hl2 (q, sg, false) (by simp))
  · obtain ⟨o, q, sg, cs, sv, rfl, ho⟩ := st.open_ (h2 (by omega))
    have hlo : o.length ≤ 100000 := by rw [List.length_append] at hl; omega
    have hls : sg.length ≤ 100000 := hl2 (q, sg, false) (by simp)
    have hkn : (takesV v).toNat ≤ ps.length := by omega
    have hlen := take_pts ps _ hkn
    obtain ⟨m1, m2, m3, m4⟩ := seg_made p (ps.take (takesV v).toNat) v hv (by rw [hlen]; omega)
    have e : stepP (o ++ [(q, sg, false)], p, ps) v = (o ++ [(q, sg ++ [segV p (ps.take (takesV v).toNat)], false)], endV (segV p (ps.take (takesV v).toNat)), ps.drop (takesV v).toNat) := by
      unfold stepP
      rw [if_neg (by omega), if_neg (by omega)]
      dsimp only
      rw [addSeg_snoc, m4]
    rw [e]
    rcases hv with rfl | rfl | rfl
    · exact step2_any hG hT h hA hn hnc hB hm hmd (by rw [takes_2] at hk; omega) hn9 hd9 ho hlo hls
    · exact step3_any hG hT h hA hn hnc hB hm hmd (by rw [takes_3] at hk; omega) hn9 hd9 ho hlo hls
    · exact step4_any hG hT h hA hn hnc hB hm hmd (by rw [takes_4] at hk; omega) hn9 hd9 ho hlo hls

/-- Behind a close the point that was come to last does not matter. -/
theorem run_at5 : ∀ (t : List Int) (out : List SubV) (a b : Pnt) (r : List Pnt), chk 5 t = 0 → (runP t (out, a, r)).1 = (runP t (out, b, r)).1
  | [], out, a, b, r, _ => rfl
  | v :: t, out, a, b, r, h => by
    obtain ⟨_, h2, _⟩ := chk_cons h
    have hv : v = 1 := Classical.byContradiction fun hv => h2 hv rfl
    subst hv
    rfl
/-- How many verbs the machine at block G has left. -/
def left (G : Nat) (x : World) : Nat := match x.cell? ⟨G, 0, none⟩ with
  | some (.slice _ n _) => n
  | _ => 0
theorem left_is {G : Nat} {x : World} {A : Option Addr} {n c : Nat} (h : x.cell? ⟨G, 0, none⟩ = some (.slice A n c)) : left G x = n := by unfold left; rw [h]
/-- The loop's head. -/
def SplL (vs : List Int) (F : List SubV) (G : Nat) (w : World) (x : World) : Prop :=
  ∃ (i : Nat) (A : Option Addr) (n c : Nat) (B : Option Addr) (m d : Nat) (vo : Value) (p : Pnt) (out : List SubV) (prev : Int) (rest : List Pnt),
    MS G (.slice A n c) (.slice B m d) vo p w x ∧ (Vals w G A ((vs.drop i).map iV) ∧ Cor w G B rest) ∧ (n = (vs.drop i).length ∧ n ≤ c ∧ m = rest.length ∧ m ≤ d ∧ d ≤ 9223372036854775807) ∧
    (chk prev (vs.drop i) = 0 ∧ needs (vs.drop i) = (m : Int) ∧ (runP (vs.drop i) (out, p, rest)).1 = F) ∧ StS G out prev x vo ∧ (i ≤ vs.length ∧ out.length ≤ i ∧ ∀ y ∈ out, y.2.1.length ≤ i)
theorem left_zero {α : Type} {l : List α} {i : Nat} (h : 0 = (l.drop i).length) : l.drop i = [] := List.eq_nil_of_length_eq_zero h.symm
theorem seg_len_step7 (s : StV) (v : Int) (k : Nat) (h : ∀ x ∈ s.1, x.2.1.length ≤ k) : ∀ x ∈ (stepP s v).1, x.2.1.length ≤ k + 1 := by
  obtain ⟨out, a, rest⟩ := s
  dsimp only at h
  unfold stepP
  by_cases h1 : v = 1
  · rw [if_pos h1]; dsimp only
    intro x hx
    rcases List.mem_append.1 hx with e | e
    · have := h x e; omega
    · rw [List.mem_singleton] at e; subst e; simp
  · rw [if_neg h1]
    by_cases h5 : v = 5
    · rw [if_pos h5]; dsimp only
      rcases snoc_cases out with rfl | ⟨o, ⟨p, l, c⟩, rfl⟩
      · intro x hx; simp [shut] at hx
      · rw [shut_snoc]
        have hl := h (p, l, c) (by simp)
        dsimp only at hl
        intro x hx
        rcases List.mem_append.1 hx with e | e
        · have := h x (List.mem_append_left _ e); omega
        · rw [List.mem_singleton] at e; subst e; dsimp only; split
          · omega
          · rw [List.length_append, List.length_cons, List.length_nil]; omega
    · rw [if_neg h5]; dsimp only
      rcases snoc_cases out with rfl | ⟨o, ⟨p, l, c⟩, rfl⟩
      · intro x hx; simp [addSeg] at hx
      · rw [addSeg_snoc]
        have hl := h (p, l, c) (by simp)
        dsimp only at hl
        intro x hx
        rcases List.mem_append.1 hx with e | e
        · have := h x (List.mem_append_left _ e); omega
        · rw [List.mem_singleton] at e; subst e; dsimp only
          rw [List.length_append, List.length_cons, List.length_nil]; omega
theorem SplL.next {vs : List Int} {F : List SubV} {G i : Nat} {A : Option Addr} {n c : Nat} {B : Option Addr} {m d : Nat} {vo : Value} {p : Pnt} {out : List SubV} {prev v : Int} {t : List Int} {rest : List Pnt} {w x y : World}
    (hd : vs.drop i = v :: t) (hn : n = (vs.drop i).length) (hnc : n ≤ c) (hm : m = rest.length) (hmd : m ≤ d) (hd9 : d ≤ 9223372036854775807) (hc : chk prev (vs.drop i) = 0) (hne : needs (vs.drop i) = (m : Int)) (hF : (runP (vs.drop i) (out, p, rest)).1 = F)
    (hi : i ≤ vs.length) (hol : out.length ≤ i) (hsl : ∀ y ∈ out, y.2.1.length ≤ i)
    (h : StepQ G n c m d (takesV v).toNat t (stepP (out, p, rest) v).2.2 (stepP (out, p, rest) v).1 v (stepP (out, p, rest) v).2.1 w y) : SplL vs F G w y ∧ ∃ A' c', y.cell? ⟨G, 0, none⟩ = some (.slice A' (n - 1) c') := by
  obtain ⟨A', B', vo', p1, hM, hA, hB, hS, hp⟩ := h
  rw [hd] at hn hc hne hF
  obtain ⟨c1, c2, c3⟩ := chk_cons hc
  have hlt : i < vs.length := by
    have := congrArg List.length hd
    rw [List.length_drop, List.length_cons] at this
    omega
  have ht : vs.drop (i + 1) = t := by
    have := congrArg (List.drop 1) hd
    rw [List.drop_drop] at this
    simpa [Nat.add_comm] using this
  have hnn := needs_nn t v c3
  have hne2 : needs t = (m : Int) - takesV v := by unfold needs at hne; omega
  rw [List.length_cons] at hn
  have h53 : ((stepP (out, p, rest) v).2.2).length = m - (takesV v).toNat := by
    rcases takes_cases c1 with rfl | rfl | hv
    · show (rest.drop 1).length = _
      rw [List.length_drop, hm]; rfl
    · show rest.length = _
      rw [hm]; rfl
    · unfold stepP
      rw [if_neg (by omega), if_neg (by omega)]
      dsimp only
      rw [List.length_drop, hm]
  refine ⟨⟨i + 1, A', n - 1, c - 1, B', m - (takesV v).toNat, d - (takesV v).toNat, vo', p1, (stepP (out, p, rest) v).1, v, (stepP (out, p, rest) v).2.2, hM, ⟨by rw [ht]; exact hA, hB⟩, ⟨by rw [ht]; omega, by omega, h53.symm, by omega, by omega⟩, ⟨by rw [ht]; exact c3, by rw [ht, hne2]; omega, ?_⟩, hS, ?_⟩, A', c - 1, hM.c0⟩
  · rw [ht]
    have e : (runP t (stepP (out, p, rest) v)).1 = F := hF
    rcases hp with h5 | h5
    · subst h5
      rw [← e]
      exact run_at5 t _ _ _ _ c3
    · rw [h5]; exact e
  · refine ⟨hlt, ?_, ?_⟩
    · have := step_len (out, p, rest) v
      dsimp only at this
      rw [this]
      split <;> omega
    · exact fun y hy => seg_len_step7 (out, p, rest) v i hsl y hy
end Go.Proofs.YtalgmnnimfenpaaDoor.Q7
