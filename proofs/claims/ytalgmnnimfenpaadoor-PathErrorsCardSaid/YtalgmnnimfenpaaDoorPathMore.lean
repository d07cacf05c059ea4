import Derived.Test.YtalgmnnimfenpaaDoorCorn
/- Paths: what their verbs take, whether they may be, how they are split and joined: in numbers alone. -/
namespace Go.Proofs.YtalgmnnimfenpaaDoor
set_option linter.unusedVariables false
set_option linter.unusedSimpArgs false

/-- A segment: its four points and how many count. -/
abbrev SegV := (Pnt × Pnt × Pnt × Pnt) × Int
/-- A subpath: where it starts, its segments, whether it is closed. -/
abbrev SubV := Pnt × List SegV × Bool
instance decSeg : DecidableEq SegV := inferInstance
instance decSub : DecidableEq SubV := fun a b => decidable_of_iff (a.1 = b.1 ∧ a.2.1 = b.2.1 ∧ a.2.2 = b.2.2) ⟨fun ⟨h1, h2, h3⟩ => Prod.ext h1 (Prod.ext h2 h3), fun h => by subst h; exact ⟨rfl, rfl, rfl⟩⟩
def zP : Pnt := (0, 0)
def takesV (v : Int) : Int := if v = 1 ∨ v = 2 then 1 else if v = 3 then 2 else if v = 4 then 3 else if v = 5 then 0 else -1
def farV (p : Pnt) : Bool := decide (¬ ((-268435456 ≤ p.1 ∧ p.1 ≤ 268435456) ∧ (-268435456 ≤ p.2 ∧ p.2 ≤ 268435456)))
/-- The first fault among verbs, behind the verb prev (5: none). -/
def chk (prev : Int) : List Int → Int
  | [] => 0
  | v :: t => if takesV v < 0 then 1 else if v ≠ 1 ∧ prev = 5 then 70 else chk v t
/-- How many points verbs take. -/
def needs : List Int → Int
  | [] => 0
  | v :: t => takesV v + needs t
def pathE (vs : List Int) (ps : List Pnt) : Int :=
  if 512 < vs.length then 74 else if chk 5 vs ≠ 0 then chk 5 vs else if needs vs ≠ (ps.length : Int) then 71 else if ps.any farV then 72 else 0
theorem check_ok {vs : List Int} {ps : List Pnt} : pathE vs ps = 0 ↔ vs.length ≤ 512 ∧ chk 5 vs = 0 ∧ needs vs = (ps.length : Int) ∧ ps.any farV = false := by
  unfold pathE
  by_cases h1 : 512 < vs.length
  · rw [if_pos h1]; constructor
    · intro h; cases h
    · rintro ⟨h, _⟩; omega
  · rw [if_neg h1]
    by_cases h2 : chk 5 vs = 0
    · rw [if_neg (by simpa using h2)]
      by_cases h3 : needs vs = (ps.length : Int)
      · rw [if_neg (by simpa using h3)]
        cases h4 : ps.any farV
        · simp [h2, h3]; omega
        · simp
      · rw [if_pos h3]; constructor
        · intro h; cases h
        · rintro ⟨_, _, h, _⟩; exact absurd h h3
    · rw [if_pos h2]; constructor
      · intro h; exact absurd h h2
      · rintro ⟨_, h, _⟩; exact absurd h h2

/-! ## Splitting -/
/-- The segment from a point on, by these points. -/
def segV (at' : Pnt) : List Pnt → SegV
  | [a] => ((at', a, zP, zP), 2)
  | [a, b] => ((at', a, b, zP), 3)
  | [a, b, c] => ((at', a, b, c), 4)
  | _ => ((at', zP, zP, zP), 1)
def addSeg (g : SegV) : List SubV → List SubV
  | [] => []
  | [(s, l, c)] => [(s, l ++ [g], c)]
  | x :: y :: t => x :: addSeg g (y :: t)
def shut (at' : Pnt) : List SubV → List SubV
  | [] => []
  | [(s, l, c)] => [(s, if at' = s then l else l ++ [((at', s, zP, zP), 2)], true)]
  | x :: y :: t => x :: shut at' (y :: t)
/-- What has been split, the point that was come to last, the points that are left. -/
abbrev StV := List SubV × Pnt × List Pnt
def stepP (s : StV) (v : Int) : StV :=
  if v = 1 then (s.1 ++ [(s.2.2.headD zP, [], false)], s.2.2.headD zP, s.2.2.drop 1)
  else if v = 5 then (shut s.2.1 s.1, s.2.1, s.2.2)
  else (addSeg (segV s.2.1 (s.2.2.take (takesV v).toNat)) s.1, ((s.2.2.take (takesV v).toNat).getLast?).getD s.2.1, s.2.2.drop (takesV v).toNat)
def runP (vs : List Int) (s : StV) : StV := vs.foldl stepP s
def splitV (vs : List Int) (ps : List Pnt) : List SubV := (runP vs ([], zP, ps)).1
theorem addSeg_snoc (g : SegV) (o : List SubV) (s : Pnt) (l : List SegV) (c : Bool) : addSeg g (o ++ [(s, l, c)]) = o ++ [(s, l ++ [g], c)] := by
  induction o with
  | nil => rfl
  | cons x o ih =>
    cases o with
    | nil => rfl
    | cons y o => simp only [List.cons_append] at ih ⊢; rw [addSeg, ih]
theorem shut_snoc (at' : Pnt) (o : List SubV) (s : Pnt) (l : List SegV) (c : Bool) : shut at' (o ++ [(s, l, c)]) = o ++ [(s, if at' = s then l else l ++ [((at', s, zP, zP), 2)], true)] := by
  induction o with
  | nil => rfl
  | cons x o ih =>
    cases o with
    | nil => rfl
    | cons y o => simp only [List.cons_append] at ih ⊢; rw [shut, ih]

/-! ## Joining -/
def segVs (g : SegV) : List Int := if g.2 = 2 ∨ g.2 = 3 ∨ g.2 = 4 then [g.2] else []
def segPs (g : SegV) : List Pnt := if g.2 = 2 then [g.1.2.1] else if g.2 = 3 then [g.1.2.1, g.1.2.2.1] else if g.2 = 4 then [g.1.2.1, g.1.2.2.1, g.1.2.2.2] else []
def subVs (s : SubV) : List Int := 1 :: (s.2.1.flatMap segVs ++ if s.2.2 then [5] else [])
def subPs (s : SubV) : List Pnt := s.1 :: s.2.1.flatMap segPs
def joinVs (l : List SubV) : List Int := l.flatMap subVs
def joinPs (l : List SubV) : List Pnt := l.flatMap subPs

/-! ## Subpaths that hang together -/
/-- The end of a segment: of 2 to 4 points. -/
def endV (g : SegV) : Pnt := if g.2 ≤ 2 then g.1.2.1 else if g.2 = 3 then g.1.2.2.1 else g.1.2.2.2
/-- Each begins where the one ahead of it ends; 2 to 4 points each, the others zero. -/
def Chain (at' : Pnt) : List SegV → Pnt → Prop
  | [], e => at' = e
  | g :: t, e => g.1.1 = at' ∧ (g = segV at' (segPs g) ∧ (g.2 = 2 ∨ g.2 = 3 ∨ g.2 = 4)) ∧ Chain (endV g) t e
theorem chain_snoc {a e : Pnt} {l : List SegV} {g : SegV} (h : Chain a l e) (h1 : g.1.1 = e) (h2 : g = segV e (segPs g)) (h3 : g.2 = 2 ∨ g.2 = 3 ∨ g.2 = 4) : Chain a (l ++ [g]) (endV g) := by
  induction l generalizing a with
  | nil => cases h; exact ⟨h1, ⟨h2, h3⟩, rfl⟩
  | cons x l ih => exact ⟨h.1, h.2.1, ih h.2.2⟩
/-- A subpath that hangs together, and ends at e. -/
def SubOk (s : SubV) (e : Pnt) : Prop := Chain s.1 s.2.1 e ∧ (s.2.2 = true → e = s.1)

/-- A segment's verb takes its points, and makes it. -/
theorem step_seg (g : SegV) (at' : Pnt) (o : List SubV) (s : Pnt) (l : List SegV) (rest : List Pnt) (h1 : g = segV at' (segPs g)) (h3 : g.2 = 2 ∨ g.2 = 3 ∨ g.2 = 4) :
    stepP (o ++ [(s, l, false)], at', segPs g ++ rest) g.2 = (o ++ [(s, l ++ [g], false)], endV g, rest) := by
  have hp : (segPs g).length = (takesV g.2).toNat := by
    unfold segPs takesV
    rcases h3 with h | h | h <;> rw [h] <;> rfl
  have h5 : ¬ g.2 = 5 := by omega
  have h11 : ¬ g.2 = 1 := by omega
  unfold stepP
  rw [if_neg h11, if_neg h5]
  dsimp only
  rw [← hp, List.take_left, List.drop_left, ← h1, addSeg_snoc]
  refine Prod.ext rfl (Prod.ext ?_ rfl)
  dsimp only
  unfold segPs endV
  rcases h3 with h | h | h <;> rw [h] <;> simp
theorem run_segs (segs : List SegV) : ∀ (a e : Pnt) (o : List SubV) (s : Pnt) (l : List SegV) (rest : List Pnt), Chain a segs e →
    runP (segs.flatMap segVs) (o ++ [(s, l, false)], a, segs.flatMap segPs ++ rest) = (o ++ [(s, l ++ segs, false)], e, rest) := by
  induction segs with
  | nil => intro a e o s l rest h; cases h; simp [runP]
  | cons g t ih =>
    intro a e o s l rest h
    obtain ⟨h1, ⟨h2, h3⟩, h4⟩ := h
    have hv : segVs g = [g.2] := by unfold segVs; rw [if_pos h3]
    rw [List.flatMap_cons, List.flatMap_cons, hv, List.append_assoc]
    show runP (t.flatMap segVs) (stepP _ g.2) = _
    rw [step_seg g a o s l _ h2 h3, ih _ _ _ _ _ _ h4]
    simp
theorem run_sub (x : SubV) (e : Pnt) (hx : SubOk x e) (o : List SubV) (a : Pnt) (rest : List Pnt) : runP (subVs x) (o, a, subPs x ++ rest) = (o ++ [x], e, rest) := by
  obtain ⟨s, segs, c⟩ := x
  obtain ⟨h1, h2⟩ := hx
  unfold subVs subPs
  dsimp only at h1 h2 ⊢
  show runP _ (stepP _ 1) = _
  have e1 : stepP (o, a, (s :: segs.flatMap segPs) ++ rest) 1 = (o ++ [(s, [], false)], s, segs.flatMap segPs ++ rest) := rfl
  rw [e1]
  unfold runP
  rw [List.foldl_append]
  have e2 := run_segs segs s e o s [] rest h1
  unfold runP at e2
  rw [e2, List.nil_append]
  cases c
  · rfl
  · obtain rfl := h2 rfl
    show stepP _ 5 = _
    have : stepP (o ++ [(e, segs, false)], e, rest) 5 = (shut e (o ++ [(e, segs, false)]), e, rest) := rfl
    rw [this, shut_snoc, if_pos rfl]
theorem run_join (l : List SubV) (hl : ∀ x ∈ l, ∃ e, SubOk x e) : ∀ (o : List SubV) (a : Pnt) (rest : List Pnt), ∃ e, runP (joinVs l) (o, a, joinPs l ++ rest) = (o ++ l, e, rest) := by
  induction l with
  | nil => intro o a rest; exact ⟨a, by simp [runP, joinVs, joinPs]⟩
  | cons x t ih =>
    intro o a rest
    obtain ⟨e, hx⟩ := hl x (by simp)
    obtain ⟨e2, h2⟩ := ih (fun y hy => hl y (by simp [hy])) (o ++ [x]) e rest
    refine ⟨e2, ?_⟩
    unfold joinVs joinPs at h2 ⊢
    rw [List.flatMap_cons, List.flatMap_cons, List.append_assoc]
    unfold runP at h2 ⊢
    rw [List.foldl_append]
    have := run_sub x e hx o a (t.flatMap subPs ++ rest)
    unfold runP at this
    rw [this, h2]
    simp
/-- Subpaths that hang together are split again, when they were joined. -/
theorem split_join (l : List SubV) (hl : ∀ x ∈ l, ∃ e, SubOk x e) : splitV (joinVs l) (joinPs l) = l := by
  obtain ⟨e, h⟩ := run_join l hl [] zP []
  unfold splitV
  rw [List.append_nil] at h
  rw [h]
  rfl
end Go.Proofs.YtalgmnnimfenpaaDoor

/- Paths that may be: what is split of them hangs together; joined again it may be; shifted it is split into shifted ones. -/
namespace Go.Proofs.YtalgmnnimfenpaaDoor
set_option linter.unusedVariables false
set_option linter.unusedSimpArgs false

theorem takes_cases {v : Int} (h : ¬ takesV v < 0) : v = 1 ∨ v = 5 ∨ v = 2 ∨ v = 3 ∨ v = 4 := by
  unfold takesV at h; split at h
  · omega
  · split at h
    · omega
    · split at h
      · omega
      · split at h
        · omega
        · omega
theorem takes_1 : takesV 1 = 1 := by decide
theorem takes_2 : takesV 2 = 1 := by decide
theorem takes_3 : takesV 3 = 2 := by decide
theorem takes_4 : takesV 4 = 3 := by decide
theorem takes_5 : takesV 5 = 0 := by decide
theorem chk_cons {p v : Int} {t : List Int} (h : chk p (v :: t) = 0) : ¬ takesV v < 0 ∧ (v ≠ 1 → p ≠ 5) ∧ chk v t = 0 := by
  unfold chk at h
  by_cases h1 : takesV v < 0
  · rw [if_pos h1] at h; cases h
  · rw [if_neg h1] at h
    by_cases h2 : v ≠ 1 ∧ p = 5
    · rw [if_pos h2] at h; cases h
    · rw [if_neg h2] at h
      exact ⟨h1, fun a b => h2 ⟨a, b⟩, h⟩
theorem chk_mk {p v : Int} {t : List Int} (h1 : ¬ takesV v < 0) (h2 : v ≠ 1 → p ≠ 5) (h : chk v t = 0) : chk p (v :: t) = 0 := by
  unfold chk
  rw [if_neg h1, if_neg (fun ⟨a, b⟩ => h2 a b)]; exact h
theorem needs_nn : ∀ (vs : List Int) (p : Int), chk p vs = 0 → 0 ≤ needs vs := by
  intro vs
  induction vs with
  | nil => intro p _; exact Int.le_refl _
  | cons v t ih => intro p h; obtain ⟨h1, _, h3⟩ := chk_cons h; have := ih v h3; unfold needs; omega
/-- A list of so many points is one of these. -/
theorem take_pts {α : Type} (l : List α) (k : Nat) (hk : k ≤ l.length) : (l.take k).length = k := by rw [List.length_take]; omega

def InvP (prev : Int) (s : StV) : Prop :=
  (∀ x ∈ s.1, ∃ e, SubOk x e) ∧ (prev ≠ 5 → ∃ o p l, s.1 = o ++ [(p, l, false)] ∧ Chain p l s.2.1)
theorem seg_made (a : Pnt) (l : List Pnt) (v : Int) (hv : v = 2 ∨ v = 3 ∨ v = 4) (hl : (l.length : Int) = takesV v) : (segV a l).2 = v ∧ segPs (segV a l) = l ∧ (segV a l).1.1 = a ∧ endV (segV a l) = l.getLast?.getD a := by
  rcases hv with rfl | rfl | rfl
  · rw [takes_2] at hl
    match l, hl with
    | [x], _ => exact ⟨rfl, rfl, rfl, rfl⟩
    | [], hl => simp at hl
    | _ :: _ :: _, hl => simp at hl; omega
  · rw [takes_3] at hl
    match l, hl with
    | [x, y], _ => exact ⟨rfl, rfl, rfl, rfl⟩
    | [], hl => simp at hl
    | [_], hl => simp at hl
    | _ :: _ :: _ :: _, hl => simp at hl; omega
  · rw [takes_4] at hl
    match l, hl with
    | [x, y, z], _ => exact ⟨rfl, rfl, rfl, rfl⟩
    | [], hl => simp at hl
    | [_], hl => simp at hl
    | [_, _], hl => simp at hl
    | _ :: _ :: _ :: _ :: _, hl => simp at hl; omega
theorem inv_step {prev v : Int} {t : List Int} {s : StV} (h : InvP prev s) (hc : chk prev (v :: t) = 0) (hn : takesV v ≤ (s.2.2.length : Int)) :
    InvP v (stepP s v) ∧ ((stepP s v).2.2.length : Int) = s.2.2.length - takesV v := by
  obtain ⟨h1, h2, h3⟩ := chk_cons hc
  obtain ⟨out, a, rest⟩ := s
  obtain ⟨i1, i2⟩ := h
  dsimp only at i1 i2 hn ⊢
  rcases takes_cases h1 with rfl | rfl | hv
  · rw [takes_1] at hn
    have e : stepP (out, a, rest) 1 = (out ++ [(rest.headD zP, [], false)], rest.headD zP, rest.drop 1) := rfl
    rw [e, takes_1]
    refine ⟨⟨fun x hx => ?_, fun _ => ⟨out, _, [], rfl, rfl⟩⟩, by simp; omega⟩
    rcases List.mem_append.1 hx with hx | hx
    · exact i1 x hx
    · rw [List.mem_singleton] at hx; subst hx; exact ⟨rest.headD zP, rfl, fun h => by cases h⟩
  · obtain ⟨o, p, l, rfl, hch⟩ := i2 (h2 (by decide))
    have e : stepP (o ++ [(p, l, false)], a, rest) 5 = (shut a (o ++ [(p, l, false)]), a, rest) := rfl
    rw [e, takes_5, shut_snoc]
    refine ⟨⟨fun x hx => ?_, fun h => absurd rfl h⟩, by simp⟩
    rcases List.mem_append.1 hx with hx | hx
    · exact i1 x (List.mem_append_left _ hx)
    · rw [List.mem_singleton] at hx; subst hx
      by_cases ha : a = p
      · rw [if_pos ha]; exact ⟨a, hch, fun _ => ha⟩
      · rw [if_neg ha]
        exact ⟨p, chain_snoc (g := ((a, p, zP, zP), 2)) hch rfl rfl (.inl rfl), fun _ => rfl⟩
  · have hv1 : v ≠ 1 := by omega
    have hv5 : v ≠ 5 := by omega
    obtain ⟨o, p, l, rfl, hch⟩ := i2 (h2 hv1)
    have hk : (takesV v).toNat ≤ rest.length := by omega
    have hlen := take_pts rest _ hk
    obtain ⟨m1, m2, m3, m4⟩ := seg_made a (rest.take (takesV v).toNat) v hv (by rw [hlen]; omega)
    have e : stepP (o ++ [(p, l, false)], a, rest) v = (addSeg (segV a (rest.take (takesV v).toNat)) (o ++ [(p, l, false)]), ((rest.take (takesV v).toNat).getLast?).getD a, rest.drop (takesV v).toNat) := by
      unfold stepP; rw [if_neg hv1, if_neg hv5]
    rw [e, addSeg_snoc]
    have hch2 := chain_snoc (g := segV a (rest.take (takesV v).toNat)) hch m3 (by rw [m2]) (by rw [m1]; exact hv)
    rw [m4] at hch2
    refine ⟨⟨fun x hx => ?_, fun _ => ⟨o, p, _, rfl, hch2⟩⟩, by simp; omega⟩
    rcases List.mem_append.1 hx with hx | hx
    · exact i1 x (List.mem_append_left _ hx)
    · rw [List.mem_singleton] at hx; subst hx; exact ⟨_, hch2, fun h => by cases h⟩
theorem inv_run : ∀ (vs : List Int) (prev : Int) (s : StV), InvP prev s → chk prev vs = 0 → needs vs ≤ (s.2.2.length : Int) → ∃ p', InvP p' (runP vs s) := by
  intro vs
  induction vs with
  | nil => intro p s h _ _; exact ⟨p, h⟩
  | cons v t ih =>
    intro p s h hc hn
    obtain ⟨h1, h2, h3⟩ := chk_cons hc
    have hnn := needs_nn t v h3
    unfold needs at hn
    obtain ⟨i1, i2⟩ := inv_step h hc (by omega)
    exact ih v (stepP s v) i1 h3 (by omega)
/-- What is split of a path that may be hangs together. -/
theorem split_ok {vs : List Int} {ps : List Pnt} (h : pathE vs ps = 0) : ∀ x ∈ splitV vs ps, ∃ e, SubOk x e := by
  obtain ⟨_, h2, h3, _⟩ := check_ok.1 h
  obtain ⟨p', hi⟩ := inv_run vs 5 ([], zP, ps) ⟨(fun x hx => by cases hx), fun h => absurd rfl h⟩ h2 (by show needs vs ≤ (ps.length : Int); omega)
  exact hi.1
theorem addSeg_len (g : SegV) : ∀ o : List SubV, (addSeg g o).length = o.length
  | [] => rfl
  | [(s, l, c)] => rfl
  | x :: y :: t => by rw [addSeg, List.length_cons, addSeg_len g (y :: t)]; rfl
theorem shut_len (a : Pnt) : ∀ o : List SubV, (shut a o).length = o.length
  | [] => rfl
  | [(s, l, c)] => rfl
  | x :: y :: t => by rw [shut, List.length_cons, shut_len a (y :: t)]; rfl
theorem step_len (s : StV) (v : Int) : (stepP s v).1.length = s.1.length + if v = 1 then 1 else 0 := by
  unfold stepP
  by_cases h1 : v = 1
  · rw [if_pos h1, if_pos h1]; simp
  · rw [if_neg h1, if_neg h1]
    by_cases h5 : v = 5
    · rw [if_pos h5]; exact shut_len _ _
    · rw [if_neg h5]; exact addSeg_len _ _
/-! ## What is joined may be -/
theorem chk_segs (segs : List SegV) (rest : List Int) (hr : ∀ q, q ≠ 5 → chk q rest = 0) (hs : ∀ g ∈ segs, g.2 = 2 ∨ g.2 = 3 ∨ g.2 = 4) : ∀ q, q ≠ 5 → chk q (segs.flatMap segVs ++ rest) = 0 := by
  induction segs with
  | nil => exact hr
  | cons g t ih =>
    intro q hq
    have hg := hs g (by simp)
    have hv : segVs g = [g.2] := by unfold segVs; rw [if_pos hg]
    rw [List.flatMap_cons, hv]
    refine chk_mk ?_ (fun _ => hq) (ih (fun x hx => hs x (by simp [hx])) _ (by omega))
    rcases hg with h | h | h <;> rw [h] <;> decide
theorem chain_n {a e : Pnt} {l : List SegV} (h : Chain a l e) : ∀ g ∈ l, g.2 = 2 ∨ g.2 = 3 ∨ g.2 = 4 := by
  induction l generalizing a with
  | nil => intro g hg; cases hg
  | cons x t ih =>
    intro g hg
    rcases List.mem_cons.1 hg with rfl | hg
    · exact h.2.1.2
    · exact ih h.2.2 g hg
theorem chk_join (l : List SubV) (hl : ∀ x ∈ l, ∃ e, SubOk x e) : ∀ q, chk q (joinVs l) = 0 := by
  induction l with
  | nil => intro q; rfl
  | cons x t ih =>
    intro q
    obtain ⟨s, segs, c⟩ := x
    obtain ⟨e, h1, _⟩ := hl _ (List.mem_cons_self ..)
    have ih' := ih (fun y hy => hl y (by simp [hy]))
    unfold joinVs at ih' ⊢
    rw [List.flatMap_cons]
    unfold subVs
    rw [List.cons_append, List.append_assoc]
    refine chk_mk (by decide) (fun h => absurd rfl h) (chk_segs segs _ ?_ (chain_n h1) 1 (by decide))
    intro q' hq'
    cases c
    · exact ih' q'
    · exact chk_mk (by decide) (fun _ => hq') (ih' 5)
theorem needs_append (a b : List Int) : needs (a ++ b) = needs a + needs b := by
  induction a with
  | nil => simp [needs]
  | cons v t ih => rw [List.cons_append, needs, needs, ih]; omega
theorem needs_seg (g : SegV) : needs (segVs g) = ((segPs g).length : Int) := by
  unfold segVs segPs
  by_cases h2 : g.2 = 2
  · rw [if_pos (.inl h2), if_pos h2, h2]; rfl
  · by_cases h3 : g.2 = 3
    · rw [if_pos (.inr (.inl h3)), if_neg h2, if_pos h3, h3]; rfl
    · by_cases h4 : g.2 = 4
      · rw [if_pos (.inr (.inr h4)), if_neg h2, if_neg h3, if_pos h4, h4]; rfl
      · rw [if_neg (by omega), if_neg h2, if_neg h3, if_neg h4]; rfl
theorem needs_segs (l : List SegV) : needs (l.flatMap segVs) = ((l.flatMap segPs).length : Int) := by
  induction l with
  | nil => rfl
  | cons g t ih => rw [List.flatMap_cons, List.flatMap_cons, needs_append, ih, needs_seg, List.length_append]; omega
theorem needs_join (l : List SubV) : needs (joinVs l) = ((joinPs l).length : Int) := by
  induction l with
  | nil => rfl
  | cons x t ih =>
    unfold joinVs joinPs at ih ⊢
    rw [List.flatMap_cons, List.flatMap_cons, needs_append, ih, List.length_append]
    have : needs (subVs x) = ((subPs x).length : Int) := by
      unfold subVs subPs
      rw [needs, needs_append, needs_segs, takes_1, List.length_cons]
      cases x.2.2
      · simp [needs]; omega
      · simp [needs, takes_5]; omega
    omega
end Go.Proofs.YtalgmnnimfenpaaDoor

/- Paths joined again are short and near; paths that are shifted; paths that may not be. -/
namespace Go.Proofs.YtalgmnnimfenpaaDoor
set_option linter.unusedVariables false
set_option linter.unusedSimpArgs false

theorem joinVs_snoc (o : List SubV) (x : SubV) : joinVs (o ++ [x]) = joinVs o ++ subVs x := by unfold joinVs; simp
theorem joinPs_snoc (o : List SubV) (x : SubV) : joinPs (o ++ [x]) = joinPs o ++ subPs x := by unfold joinPs; simp
theorem snoc_cases {α : Type} (l : List α) : l = [] ∨ ∃ o x, l = o ++ [x] := by
  rcases List.eq_nil_or_concat l with h | ⟨o, x, h⟩
  · exact .inl h
  · exact .inr ⟨o, x, by simpa using h⟩
theorem segVs_len (g : SegV) : (segVs g).length ≤ 1 := by unfold segVs; split <;> simp
theorem len_step (s : StV) (v : Int) : (joinVs (stepP s v).1).length ≤ (joinVs s.1).length + 2 := by
  obtain ⟨out, a, rest⟩ := s
  unfold stepP
  by_cases h1 : v = 1
  · rw [if_pos h1]; dsimp only; rw [joinVs_snoc]; simp [subVs]
  · rw [if_neg h1]
    by_cases h5 : v = 5
    · rw [if_pos h5]; dsimp only
      rcases snoc_cases out with rfl | ⟨o, ⟨p, l, c⟩, rfl⟩
      · simp [shut, joinVs]
      · rw [shut_snoc, joinVs_snoc, joinVs_snoc, List.length_append, List.length_append]
        have : (subVs (p, if a = p then l else l ++ [((a, p, zP, zP), 2)], true)).length ≤ (subVs (p, l, c)).length + 2 := by
          unfold subVs
          dsimp only
          split
          · cases c <;> simp
          · simp only [List.length_cons, List.length_append, List.flatMap_append, if_true]
            have : (segVs (((a, p, zP, zP), 2) : SegV)).length ≤ 1 := segVs_len _
            simp only [List.flatMap_cons, List.flatMap_nil, List.append_nil, List.length_cons, List.length_nil]
            omega
        omega
    · rw [if_neg h5]; dsimp only
      rcases snoc_cases out with rfl | ⟨o, ⟨p, l, c⟩, rfl⟩
      · simp [addSeg, joinVs]
      · rw [addSeg_snoc, joinVs_snoc, joinVs_snoc, List.length_append, List.length_append]
        have h0 := segVs_len (segV a (rest.take (takesV v).toNat))
        have : (subVs (p, l ++ [segV a (rest.take (takesV v).toNat)], c)).length ≤ (subVs (p, l, c)).length + 1 := by
          unfold subVs
          dsimp only
          simp only [List.length_cons, List.length_append, List.flatMap_append, List.flatMap_cons, List.flatMap_nil, List.append_nil]
          omega
        omega
theorem len_run : ∀ (vs : List Int) (s : StV), (joinVs (runP vs s).1).length ≤ (joinVs s.1).length + 2 * vs.length := by
  intro vs
  induction vs with
  | nil => intro s; exact Nat.le_refl _
  | cons v t ih =>
    intro s
    show (joinVs (runP t (stepP s v)).1).length ≤ _
    have h1 := ih (stepP s v)
    have h2 := len_step s v
    rw [List.length_cons]; omega
theorem segPs_mem (a : Pnt) (l : List Pnt) : ∀ p ∈ segPs (segV a l), p ∈ l := by
  intro p hp
  match l, hp with
  | [x], hp => exact hp
  | [x, y], hp => exact hp
  | [x, y, z], hp => exact hp
  | [], hp => exact absurd hp (by simp [segV, segPs])
  | _ :: _ :: _ :: _ :: _, hp => exact absurd hp (by simp [segV, segPs])
def NearS (s : StV) : Prop := (∀ p ∈ joinPs s.1, farV p = false) ∧ (∀ p ∈ s.2.2, farV p = false)
theorem near_step (s : StV) (v : Int) (h : NearS s) : NearS (stepP s v) := by
  obtain ⟨out, a, rest⟩ := s
  obtain ⟨h1, h2⟩ := h
  dsimp only at h1 h2
  unfold stepP
  by_cases hv : v = 1
  · rw [if_pos hv]
    refine ⟨fun p hp => ?_, fun p hp => h2 p (List.mem_of_mem_drop hp)⟩
    dsimp only at hp
    rw [joinPs_snoc] at hp
    rcases List.mem_append.1 hp with hp | hp
    · exact h1 p hp
    · have hp2 : p = rest.headD zP := by simpa [subPs] using hp
      rw [hp2]
      cases rest with
      | nil => decide
      | cons x t => exact h2 x (by simp)
  · rw [if_neg hv]
    by_cases h5 : v = 5
    · rw [if_pos h5]
      refine ⟨fun p hp => ?_, h2⟩
      dsimp only at hp
      rcases snoc_cases out with rfl | ⟨o, ⟨q, l, c⟩, rfl⟩
      · cases hp
      · rw [shut_snoc, joinPs_snoc] at hp
        rw [joinPs_snoc] at h1
        rcases List.mem_append.1 hp with hp | hp
        · exact h1 p (List.mem_append_left _ hp)
        · unfold subPs at hp
          dsimp only at hp
          have hq : farV q = false := h1 q (List.mem_append_right _ (by simp [subPs]))
          split at hp
          · exact h1 p (List.mem_append_right _ hp)
          · rcases List.mem_cons.1 hp with hp | hp
            · rw [hp]; exact hq
            · rw [List.flatMap_append] at hp
              rcases List.mem_append.1 hp with hp | hp
              · exact h1 p (List.mem_append_right _ (List.mem_cons_of_mem _ hp))
              · have : p = q := by simpa [segPs] using hp
                rw [this]; exact hq
    · rw [if_neg h5]
      refine ⟨fun p hp => ?_, fun p hp => h2 p (List.mem_of_mem_drop hp)⟩
      dsimp only at hp
      rcases snoc_cases out with rfl | ⟨o, ⟨q, l, c⟩, rfl⟩
      · cases hp
      · rw [addSeg_snoc, joinPs_snoc] at hp
        rw [joinPs_snoc] at h1
        rcases List.mem_append.1 hp with hp | hp
        · exact h1 p (List.mem_append_left _ hp)
        · unfold subPs at hp
          dsimp only at hp
          rcases List.mem_cons.1 hp with hp | hp
          · rw [hp]; exact h1 q (List.mem_append_right _ (by simp [subPs]))
          · rw [List.flatMap_append] at hp
            rcases List.mem_append.1 hp with hp | hp
            · exact h1 p (List.mem_append_right _ (List.mem_cons_of_mem _ hp))
            · simp only [List.flatMap_cons, List.flatMap_nil, List.append_nil] at hp
              exact h2 p (List.mem_of_mem_take (segPs_mem _ _ p hp))
theorem near_run : ∀ (vs : List Int) (s : StV), NearS s → NearS (runP vs s) := by
  intro vs
  induction vs with
  | nil => intro s h; exact h
  | cons v t ih => intro s h; exact ih _ (near_step s v h)
/-- What was split of a path that is not too long may be, joined again. -/
theorem check_join {vs : List Int} {ps : List Pnt} (h : pathE vs ps = 0) (hl : vs.length ≤ 256) : pathE (joinVs (splitV vs ps)) (joinPs (splitV vs ps)) = 0 := by
  have hok := split_ok h
  obtain ⟨_, _, _, h4⟩ := check_ok.1 h
  refine check_ok.2 ⟨?_, chk_join _ hok 5, needs_join _, ?_⟩
  · have := len_run vs ([], zP, ps)
    unfold splitV
    simp only [joinVs, List.flatMap_nil, List.length_nil] at this ⊢
    omega
  · have hn : NearS ([], zP, ps) := by
      refine ⟨(fun p hp => by cases hp), fun p hp => ?_⟩
      cases hf : farV p
      · rfl
      · rw [List.any_eq_true.2 ⟨p, hp, hf⟩] at h4; cases h4
    rw [Bool.eq_false_iff]
    intro ha
    obtain ⟨p, hp, hf⟩ := List.any_eq_true.1 ha
    rw [(near_run vs _ hn).1 p hp] at hf; cases hf
/-- Split, joined, split again. -/
theorem split_back {vs : List Int} {ps : List Pnt} (h : pathE vs ps = 0) : splitV (joinVs (splitV vs ps)) (joinPs (splitV vs ps)) = splitV vs ps := split_join _ (split_ok h)

/-! ## Shifted -/
def shG (b : Pnt) (g : SegV) : SegV := segV (shP b g.1.1) ((segPs g).map (shP b))
def shS (b : Pnt) (x : SubV) : SubV := (shP b x.1, x.2.1.map (shG b), x.2.2)
theorem shP_inj {b p q : Pnt} : shP b p = shP b q ↔ p = q := by
  obtain ⟨px, py⟩ := p
  obtain ⟨qx, qy⟩ := q
  unfold shP
  simp only [Prod.mk.injEq]
  omega
def shT (b : Pnt) (s : StV) : StV := (s.1.map (shS b), shP b s.2.1, s.2.2.map (shP b))
theorem shift_step (b : Pnt) {prev v : Int} {t : List Int} {s : StV} (h : InvP prev s) (hc : chk prev (v :: t) = 0) (hn : takesV v ≤ (s.2.2.length : Int)) : stepP (shT b s) v = shT b (stepP s v) := by
  obtain ⟨h1, h2, h3⟩ := chk_cons hc
  obtain ⟨out, a, rest⟩ := s
  obtain ⟨i1, i2⟩ := h
  dsimp only at i1 i2 hn
  rcases takes_cases h1 with rfl | rfl | hv
  · rw [takes_1] at hn
    cases rest with
    | nil => simp at hn
    | cons x r => simp [stepP, shT, shS]
  · obtain ⟨o, p, l, rfl, hch⟩ := i2 (h2 (by decide))
    have e1 : stepP (shT b (o ++ [(p, l, false)], a, rest)) 5 = (shut (shP b a) (o.map (shS b) ++ [(shP b p, l.map (shG b), false)]), shP b a, rest.map (shP b)) := by
      unfold stepP shT; simp [shS]
    have e2 : stepP (o ++ [(p, l, false)], a, rest) 5 = (shut a (o ++ [(p, l, false)]), a, rest) := rfl
    rw [e1, e2, shut_snoc, shut_snoc]
    unfold shT
    dsimp only
    by_cases ha : a = p
    · rw [if_pos ha, if_pos (shP_inj.2 ha)]; simp [shS]
    · rw [if_neg ha, if_neg (fun k => ha (shP_inj.1 k))]; simp [shS, shG, segPs, segV]
  · have hv1 : v ≠ 1 := by omega
    have hv5 : v ≠ 5 := by omega
    obtain ⟨o, p, l, rfl, hch⟩ := i2 (h2 hv1)
    have hk : (takesV v).toNat ≤ rest.length := by omega
    have hlen := take_pts rest _ hk
    obtain ⟨m1, m2, m3, m4⟩ := seg_made a (rest.take (takesV v).toNat) v hv (by rw [hlen]; omega)
    have e : ∀ (o : List SubV) (a : Pnt) (rest : List Pnt), stepP (o, a, rest) v = (addSeg (segV a (rest.take (takesV v).toNat)) o, ((rest.take (takesV v).toNat).getLast?).getD a, rest.drop (takesV v).toNat) := by
      intro o a rest
      unfold stepP; rw [if_neg hv1, if_neg hv5]
    have e3 : shG b (segV a (rest.take (takesV v).toNat)) = segV (shP b a) ((rest.take (takesV v).toNat).map (shP b)) := by unfold shG; rw [m2, m3]
    unfold shT
    dsimp only
    rw [e, e]
    dsimp only
    rw [List.map_append]
    show (addSeg _ (o.map (shS b) ++ [(shP b p, l.map (shG b), false)]), _, _) = _
    rw [addSeg_snoc, addSeg_snoc, ← List.map_take, ← e3, ← List.map_drop]
    refine Prod.ext ?_ (Prod.ext ?_ rfl)
    · simp [shS]
    · dsimp only
      rw [List.getLast?_map]
      cases (rest.take (takesV v).toNat).getLast? <;> rfl
theorem shift_run (b : Pnt) : ∀ (vs : List Int) (prev : Int) (s : StV), InvP prev s → chk prev vs = 0 → needs vs ≤ (s.2.2.length : Int) → runP vs (shT b s) = shT b (runP vs s) := by
  intro vs
  induction vs with
  | nil => intro p s _ _ _; rfl
  | cons v t ih =>
    intro p s h hc hn
    obtain ⟨h1, h2, h3⟩ := chk_cons hc
    have hnn := needs_nn t v h3
    unfold needs at hn
    obtain ⟨i1, i2⟩ := inv_step h hc (by omega)
    show runP t (stepP (shT b s) v) = shT b (runP t (stepP s v))
    rw [shift_step b h hc (by omega)]
    exact ih v (stepP s v) i1 h3 (by omega)
/-- A path that is shifted is split into shifted subpaths. -/
theorem split_shift (b : Pnt) {vs : List Int} {ps : List Pnt} (h : pathE vs ps = 0) : splitV vs (ps.map (shP b)) = (splitV vs ps).map (shS b) := by
  obtain ⟨_, h2, h3, _⟩ := check_ok.1 h
  have hi : InvP 5 ([], zP, ps) := ⟨(fun x hx => by cases hx), fun h => absurd rfl h⟩
  unfold splitV
  cases vs with
  | nil => rfl
  | cons v t =>
    obtain ⟨g1, g2, g3⟩ := chk_cons h2
    have hv : v = 1 := by
      rcases Int.lt_trichotomy v 1 with h | h | h
      · exact absurd rfl (g2 (by omega))
      · exact h
      · exact absurd rfl (g2 (by omega))
    subst hv
    have hnn := needs_nn t 1 g3
    unfold needs at h3
    obtain ⟨i1, i2⟩ := inv_step hi h2 (by show takesV 1 ≤ (ps.length : Int); omega)
    have e : stepP ([], zP, ps.map (shP b)) 1 = shT b (stepP ([], zP, ps) 1) := by
      rw [takes_1] at h3
      cases ps with
      | nil => simp at h3; omega
      | cons x r => simp [stepP, shT, shS]
    show (runP t (stepP ([], zP, ps.map (shP b)) 1)).1 = (runP t (stepP ([], zP, ps) 1)).1.map (shS b)
    rw [e, shift_run b t 1 _ i1 g3 (by rw [i2]; show needs t ≤ (ps.length : Int) - takesV 1; omega)]
    rfl

/-! ## Faults -/
theorem takes_none (v : Int) : takesV v < 0 ↔ v < 1 ∨ 5 < v := by
  constructor
  · intro h
    rcases Int.lt_trichotomy v 1 with k | k | k
    · exact .inl k
    · subst k; exact absurd h (by decide)
    · rcases Int.lt_trichotomy 5 v with j | j | j
      · exact .inr j
      · subst j; exact absurd h (by decide)
      · have : v = 2 ∨ v = 3 ∨ v = 4 := by omega
        rcases this with rfl | rfl | rfl <;> exact absurd h (by decide)
  · intro h
    unfold takesV
    rw [if_neg (by omega), if_neg (by omega), if_neg (by omega), if_neg (by omega)]
    decide
theorem chk_snoc (v : Int) : ∀ (vs : List Int) (p : Int), chk p vs = 0 → ∃ q, chk p (vs ++ [v]) = chk q [v] := by
  intro vs
  induction vs with
  | nil => intro p _; exact ⟨p, rfl⟩
  | cons x t ih =>
    intro p h
    obtain ⟨h1, h2, h3⟩ := chk_cons h
    obtain ⟨q, hq⟩ := ih x h3
    refine ⟨q, ?_⟩
    rw [List.cons_append, chk, if_neg h1, if_neg (fun ⟨a, b⟩ => h2 a b)]
    exact hq
theorem check_more {vs : List Int} {ps : List Pnt} (h : pathE vs ps = 0) (p : Pnt) : pathE vs (ps ++ [p]) = 71 := by
  obtain ⟨h1, h2, h3, h4⟩ := check_ok.1 h
  unfold pathE
  rw [if_neg (by omega), if_neg (by simpa using h2), if_pos (by rw [h3]; simp; omega)]
theorem check_few {vs : List Int} {ps : List Pnt} {p : Pnt} (h : pathE vs (p :: ps) = 0) : pathE vs ps = 71 := by
  obtain ⟨h1, h2, h3, h4⟩ := check_ok.1 h
  unfold pathE
  rw [if_neg (by omega), if_neg (by simpa using h2), if_pos (by rw [h3]; simp; omega)]
theorem check_line {vs : List Int} {ps : List Pnt} (hl : vs.length < 512) : pathE (2 :: vs) ps = 70 := by
  have : chk 5 (2 :: vs) = 70 := by unfold chk; rw [if_neg (by decide), if_pos (by decide)]
  unfold pathE
  rw [if_neg (by rw [List.length_cons]; omega), this]; rfl
theorem check_of (vs : List Int) (ps : List Pnt) (k : Int) (h : chk 5 vs = k) (hl : vs.length ≤ 512) : pathE vs ps = if k ≠ 0 then k else if needs vs ≠ (ps.length : Int) then 71 else if ps.any farV then 72 else 0 := by
  subst h; unfold pathE; rw [if_neg (by omega)]
theorem check_bad {vs : List Int} {ps qs : List Pnt} (h : pathE vs ps = 0) (hl : vs.length < 512) (v : Int) : (pathE (vs ++ [v]) qs = 1 ↔ v < 1 ∨ 5 < v) := by
  obtain ⟨h1, h2, h3, h4⟩ := check_ok.1 h
  obtain ⟨q, hq⟩ := chk_snoc v vs 5 h2
  rw [← takes_none]
  by_cases ht : takesV v < 0
  · have e : chk 5 (vs ++ [v]) = 1 := by rw [hq]; unfold chk; rw [if_pos ht]
    rw [check_of _ _ _ e (by simp; omega)]; simp [ht]
  · by_cases hs : v ≠ 1 ∧ q = 5
    · have e : chk 5 (vs ++ [v]) = 70 := by rw [hq]; unfold chk; rw [if_neg ht, if_pos hs]
      rw [check_of _ _ _ e (by simp; omega)]; simp [ht]
    · have e : chk 5 (vs ++ [v]) = 0 := by rw [hq]; unfold chk; rw [if_neg ht, if_neg hs]; rfl
      rw [check_of _ _ _ e (by simp; omega)]
      simp only [ht, iff_false, ne_eq, not_true_eq_false, if_false]
      split
      · decide
      · split <;> decide
/-- What Split answers beside the fault. -/
def splitE (vs : List Int) (ps : List Pnt) : List SubV := if pathE vs ps = 0 then splitV vs ps else []
theorem splitE_ok {vs : List Int} {ps : List Pnt} (h : pathE vs ps = 0) : splitE vs ps = splitV vs ps := by unfold splitE; rw [if_pos h]
theorem splitE_bad {vs : List Int} {ps : List Pnt} (h : pathE vs ps ≠ 0) : splitE vs ps = [] := by unfold splitE; rw [if_neg h]
end Go.Proofs.YtalgmnnimfenpaaDoor
