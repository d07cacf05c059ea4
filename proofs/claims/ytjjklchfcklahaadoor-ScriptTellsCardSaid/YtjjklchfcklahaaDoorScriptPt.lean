import Derived.Test.YtjjklchfcklahaaDoorScriptNum
import Derived.Test.YtjjklchfcklahaaDoorRef3E
/- Texts of paths as rows of words: what is told depends on the words alone; blanks beside blanks change none. -/
namespace Go.Proofs.YtjjklchfcklahaaDoor
set_option linter.unusedVariables false
set_option linter.unusedSimpArgs false

def wsA : List UInt8 → List UInt8 → List (List UInt8)
  | [], cur => if cur = [] then [] else [cur]
  | c :: t, cur => if blankB c then (if cur = [] then wsA t [] else cur :: wsA t []) else wsA t (cur ++ [c])
/-- The words of a text. -/
def ws (l : List UInt8) : List (List UInt8) := wsA l []
theorem wsA_blank {c : UInt8} (h : blankB c = true) (t cur : List UInt8) : wsA (c :: t) cur = if cur = [] then wsA t [] else cur :: wsA t [] := by
  rw [wsA, if_pos h]
theorem wsA_word {w : List UInt8} (h : ∀ c ∈ w, blankB c = false) (r cur : List UInt8) : wsA (w ++ r) cur = wsA r (cur ++ w) := by
  induction w generalizing cur with
  | nil => simp
  | cons c t ih =>
    rw [List.cons_append, wsA, if_neg (by rw [h c (by simp)]; decide), ih (fun d hd => h d (by simp [hd]))]
    simp
theorem ws_rest (r : List UInt8) : ws (restB r) = ws r := by
  induction r with
  | nil => rfl
  | cons c t ih =>
    unfold restB at ih ⊢
    rw [List.dropWhile_cons]
    cases hb : blankB c
    · rfl
    · rw [if_pos rfl, ih]
      unfold ws
      rw [wsA_blank hb, if_pos rfl]
theorem restB_cons {c : UInt8} (h : blankB c = true) (t : List UInt8) : restB (c :: t) = restB t := by unfold restB; rw [List.dropWhile_cons, h]; rfl
theorem restB_stop {c : UInt8} (h : blankB c = false) (t : List UInt8) : restB (c :: t) = c :: t := by unfold restB; rw [List.dropWhile_cons, h]; rfl
theorem restB_idem : ∀ l : List UInt8, restB (restB l) = restB l
  | [] => rfl
  | c :: t => by
    cases h : blankB c
    · rw [restB_stop h, restB_stop h]
    · rw [restB_cons h]; exact restB_idem t
theorem restB_le : ∀ l : List UInt8, (restB l).length ≤ l.length
  | [] => Nat.le_refl _
  | c :: t => by
    cases h : blankB c
    · rw [restB_stop h]; exact Nat.le_refl _
    · rw [restB_cons h, List.length_cons]; have := restB_le t; omega
theorem word_rest (l : List UInt8) : wordW l ++ restW l = l := List.takeWhile_append_dropWhile
theorem word_wd (l : List UInt8) : ∀ c ∈ wordW l, blankB c = false := fun c hc => by
  unfold wordW at hc
  have := List.all_eq_true.1 (List.all_takeWhile (p := fun c => !blankB c) (l := l)) c hc
  simpa using this
theorem restW_head (l : List UInt8) : restW l = [] ∨ ∃ c t, restW l = c :: t ∧ blankB c = true := by
  unfold restW
  induction l with
  | nil => exact .inl rfl
  | cons c t ih =>
    rw [List.dropWhile_cons]
    cases hb : blankB c
    · simpa using ih
    · exact .inr ⟨c, t, rfl, hb⟩
/-- The first word, and those behind it. -/
theorem ws_step (r : List UInt8) : ws r = if wordW (restB r) = [] then [] else wordW (restB r) :: ws (restW (restB r)) := by
  rw [← ws_rest r]
  have e := word_rest (restB r)
  have hw := word_wd (restB r)
  by_cases h : wordW (restB r) = []
  · rw [if_pos h]
    rw [h, List.nil_append] at e
    rcases restW_head (restB r) with h1 | ⟨c, t, h1, h2⟩
    · rw [h1] at e; rw [← e]; rfl
    · rw [h1] at e
      have : restB r = restB (c :: t) := by
        have h3 : restB (restB r) = restB r := restB_idem r
        rw [← h3, ← e]
      exfalso
      have h4 : restB (c :: t) = restB t := restB_cons h2 t
      have h5 : (restB t).length ≤ t.length := restB_le t
      have h6 : (restB r).length = t.length + 1 := by rw [← e]; rfl
      rw [this, h4] at h6
      omega
  · rw [if_neg h]
    conv => lhs; rw [← e]
    unfold ws
    rw [wsA_word hw, List.nil_append]
    rcases restW_head (restB r) with h1 | ⟨c, t, h1, h2⟩
    · rw [h1, wsA, if_neg h]; rfl
    · rw [h1, wsA_blank h2, if_neg h, wsA_blank h2, if_pos rfl]
def ptsW : Nat → List (List UInt8) → Option (List Pnt × List (List UInt8))
  | 0, l => some ([], l)
  | k + 1, x :: y :: l =>
    match numV x, numV y with
    | some a, some b => match ptsW k l with
      | none => none
      | some (ps, l') => some ((a, b) :: ps, l')
    | _, _ => none
  | _ + 1, _ => none
def parseW : Nat → List (List UInt8) → Int → Option (List Int × List Pnt)
  | 0, _, _ => none
  | f + 1, [], _ => some ([], [])
  | f + 1, x :: l, now =>
    if letterV x = 0 ∧ (now = 0 ∨ now = 5) then none
    else
      match ptsW (takesV (if 0 < letterV x then letterV x else if now = 1 then 2 else now)).toNat (if 0 < letterV x then l else x :: l) with
      | none => none
      | some (ps, l2) =>
        match parseW f l2 (if 0 < letterV x then letterV x else if now = 1 then 2 else now) with
        | none => none
        | some (vs, qs) => some ((if 0 < letterV x then letterV x else if now = 1 then 2 else now) :: vs, ps ++ qs)
def okO {α β : Type} : Except α β → Option β
  | .ok x => some x
  | .error _ => none
theorem num_nil : numV [] = none := by decide
theorem pts_words : ∀ (k : Nat) (r : List UInt8), (okO (ptsS k r)).map (fun x => (x.1, ws x.2)) = ptsW k (ws r)
  | 0, r => rfl
  | k + 1, r => by
    unfold ptsS
    rw [ws_step r]
    by_cases h : wordW (restB r) = []
    · rw [if_pos h, h, num_nil]; rfl
    · rw [if_neg h]
      cases h1 : numV (wordW (restB r)) with
      | none =>
        rw [ws_step (restW (restB r))]
        by_cases h2 : wordW (restB (restW (restB r))) = []
        · rw [if_pos h2]; rfl
        · rw [if_neg h2, ptsW, h1]; rfl
      | some a =>
        dsimp only
        rw [ws_step (restW (restB r))]
        by_cases h2 : wordW (restB (restW (restB r))) = []
        · rw [if_pos h2, h2, num_nil]; rfl
        · rw [if_neg h2, ptsW, h1]
          cases h3 : numV (wordW (restB (restW (restB r)))) with
          | none => rfl
          | some b =>
            dsimp only
            have ih := pts_words k (restW (restB (restW (restB r))))
            cases h4 : ptsS k (restW (restB (restW (restB r)))) with
            | error e => rw [h4] at ih; rw [← ih]; rfl
            | ok x => rw [h4] at ih; rw [← ih]; rfl
/-- What a text tells, its words tell. -/
theorem parse_words : ∀ (f : Nat) (r : List UInt8) (now : Int), okO (parseS f r now) = parseW f (ws r) now
  | 0, r, now => rfl
  | f + 1, r, now => by
    unfold parseS
    rw [ws_step r]
    by_cases h : wordW (restB r) = []
    · rw [if_pos h, if_pos h]; rfl
    · rw [if_neg h, if_neg h, parseW]
      by_cases h0 : letterV (wordW (restB r)) = 0 ∧ (now = 0 ∨ now = 5)
      · rw [if_pos h0, if_pos h0]; rfl
      · rw [if_neg h0, if_neg h0]
        generalize hn : (if 0 < letterV (wordW (restB r)) then letterV (wordW (restB r)) else if now = 1 then 2 else now) = nw
        have hr : ws (if 0 < letterV (wordW (restB r)) then restW (restB r) else restB r) = if 0 < letterV (wordW (restB r)) then ws (restW (restB r)) else wordW (restB r) :: ws (restW (restB r)) := by
          split
          · rfl
          · rw [ws_rest, ws_step r, if_neg h]
        rw [← hr]
        have hp := pts_words (takesV nw).toNat (if 0 < letterV (wordW (restB r)) then restW (restB r) else restB r)
        cases h4 : ptsS (takesV nw).toNat (if 0 < letterV (wordW (restB r)) then restW (restB r) else restB r) with
        | error e => rw [h4] at hp; rw [← hp]; rfl
        | ok x =>
          obtain ⟨ps, r2⟩ := x
          rw [h4] at hp
          rw [← hp]
          have ih := parse_words f r2 nw
          show okO (match parseS f r2 nw with
            | .error e => .error e
            | .ok (vs, qs) => .ok (nw :: vs, ps ++ qs)) = (match parseW f (ws r2) nw with
            | none => none
            | some (vs, qs) => some (nw :: vs, ps ++ qs))
          rw [← ih]
          cases parseS f r2 nw with
          | error e => rfl
          | ok y => rfl
end Go.Proofs.YtjjklchfcklahaaDoor

/- Texts of paths: printed and parsed back; with more blanks; each verb told by itself: in numbers alone. -/
namespace Go.Proofs.YtjjklchfcklahaaDoor
set_option linter.unusedVariables false
set_option linter.unusedSimpArgs false

/-- The text of a path. -/
def printT (vs : List Int) (ps : List Pnt) : List UInt8 := (prS vs ps).tail
/-- What a text tells: verbs and points, the place, the fault. -/
def parseR (s : List UInt8) : (List Int × List Pnt) × Nat × Int :=
  match parseS (s.length + 1) s 0 with
  | .error e => (([], []), s.length - e, 80)
  | .ok (vs, ps) => if pathE vs ps = 0 then ((vs, ps), 0, 0) else (([], []), 0, pathE vs ps)
theorem prS_len : ∀ (vs : List Int) (ps : List Pnt), 2 * vs.length ≤ (prS vs ps).length
  | [], ps => Nat.le_refl _
  | v :: t, ps => by
    have := prS_len t (ps.drop (takesV v).toNat)
    unfold prS
    simp only [List.length_cons, List.length_append]
    omega
theorem far_of_path {vs : List Int} {ps : List Pnt} (h : pathE vs ps = 0) : ∀ p ∈ ps, FarP p := fun p hp => by
  obtain ⟨_, _, _, h4⟩ := check_ok.1 h
  have hf : farV p = false := by
    cases hf : farV p
    · rfl
    · rw [List.any_eq_true.2 ⟨p, hp, hf⟩] at h4; cases h4
  unfold farV at hf
  have := Classical.not_not.1 (of_decide_eq_false hf)
  unfold FarP
  omega
theorem parse_text {vs : List Int} {ps : List Pnt} (h : pathE vs ps = 0) (f : Nat) (hf : vs.length < f) (now : Int) : parseS f (printT vs ps) now = .ok (vs, ps) := by
  obtain ⟨_, h2, h3, _⟩ := check_ok.1 h
  have hp := parse_print vs ps 5 now f h2 h3 (far_of_path h) hf
  unfold printT
  cases vs with
  | nil => exact hp
  | cons v t =>
    have e : prS (v :: t) ps = 32 :: (prS (v :: t) ps).tail := rfl
    rw [e, parse_ahead] at hp
    exact hp
/-- What is printed is parsed back. -/
theorem parse_printT {vs : List Int} {ps : List Pnt} (h : pathE vs ps = 0) : parseR (printT vs ps) = ((vs, ps), 0, 0) := by
  have hl : vs.length < (printT vs ps).length + 1 := by
    have := prS_len vs ps
    unfold printT
    rw [List.length_tail]
    omega
  unfold parseR
  rw [parse_text h _ hl 0]
  dsimp only
  rw [if_pos h]
/-- What is parsed well may be. -/
theorem parse_good {s : List UInt8} {vs : List Int} {ps : List Pnt} {i : Nat} (h : parseR s = ((vs, ps), i, 0)) : pathE vs ps = 0 := by
  unfold parseR at h
  split at h
  · simp at h
  · split at h
    · simp only [Prod.mk.injEq] at h
      obtain ⟨⟨rfl, rfl⟩, _⟩ := h
      assumption
    · rename_i h2
      simp only [Prod.mk.injEq] at h
      exact absurd h.2.2 h2
theorem parse_bad {s : List UInt8} {vs : List Int} {ps : List Pnt} {i : Nat} {e : Int} (h : parseR s = ((vs, ps), i, e)) (he : e ≠ 0) : vs = [] ∧ ps = [] ∧ i ≤ s.length := by
  unfold parseR at h
  split at h
  · simp only [Prod.mk.injEq] at h
    obtain ⟨⟨rfl, rfl⟩, rfl, _⟩ := h
    exact ⟨rfl, rfl, Nat.sub_le _ _⟩
  · split at h
    · simp only [Prod.mk.injEq] at h
      exact absurd h.2.2.symm he
    · simp only [Prod.mk.injEq] at h
      obtain ⟨⟨rfl, rfl⟩, rfl, _⟩ := h
      exact ⟨rfl, rfl, Nat.zero_le _⟩
/-! ## More blanks -/
theorem wsA_blanks {b : List UInt8} (h : ∀ c ∈ b, blankB c = true) (t : List UInt8) : wsA (b ++ t) [] = wsA t [] := by
  induction b with
  | nil => rfl
  | cons c b ih => rw [List.cons_append, wsA_blank (h c (by simp)), if_pos rfl]; exact ih (fun d hd => h d (by simp [hd]))
theorem wsA_end {b : List UInt8} (h : ∀ c ∈ b, blankB c = true) : ∀ (l cur : List UInt8), wsA (l ++ b) cur = wsA l cur
  | [], cur => by
    rw [List.nil_append]
    cases b with
    | nil => rfl
    | cons c b =>
      have hb := wsA_blanks (b := b) (fun d hd => h d (by simp [hd])) []
      rw [List.append_nil] at hb
      rw [wsA_blank (h c (by simp)), hb]
      rfl
  | c :: t, cur => by
    rw [List.cons_append, wsA, wsA]
    split
    · rw [wsA_end h t []]
    · rw [wsA_end h t _]
/-- The blanks that a byte stands for. -/
def blk (b : UInt8) : List UInt8 := if b % 5 = 0 then [9] else if b % 5 = 1 then [10, 32] else if b % 5 = 2 then [44] else if b % 5 = 3 then [13, 10] else [32, 32]
theorem blk_blank (b : UInt8) : ∀ c ∈ blk b, blankB c = true := by
  intro c hc
  unfold blk at hc
  have one : ∀ {d : UInt8}, blankB d = true → c ∈ [d] → blankB c = true := fun h hm => by rw [List.mem_singleton] at hm; rw [hm]; exact h
  have two : ∀ {d e : UInt8}, blankB d = true → blankB e = true → c ∈ [d, e] → blankB c = true := fun h1 h2 hm => by
    rcases List.mem_cons.1 hm with h | h
    · rw [h]; exact h1
    · rw [List.mem_singleton] at h; rw [h]; exact h2
  split at hc
  · exact one rfl hc
  · split at hc
    · exact two rfl rfl hc
    · split at hc
      · exact one rfl hc
      · split at hc
        · exact two rfl rfl hc
        · exact two rfl rfl hc
/-- A text with blanks put in behind its blanks. -/
def weave : List UInt8 → List UInt8 → List UInt8
  | [], _ => []
  | c :: t, [] => c :: weave t []
  | c :: t, b :: bs => if c = 32 then c :: (blk b ++ weave t bs) else c :: weave t (b :: bs)
theorem weave_nil : ∀ s : List UInt8, weave s [] = s
  | [] => rfl
  | c :: t => by rw [weave, weave_nil t]
theorem ws_weave : ∀ (s by' cur : List UInt8), wsA (weave s by') cur = wsA s cur
  | [], _, _ => by simp [weave]
  | c :: t, [], cur => by rw [weave_nil]
  | c :: t, b :: bs, cur => by
    rw [weave]
    by_cases h : c = 32
    · subst h
      rw [if_pos rfl, wsA_blank (by rfl), wsA_blank (by rfl), wsA_blanks (blk_blank b), ws_weave t bs []]
    · rw [if_neg h, wsA, wsA, ws_weave t (b :: bs) [], ws_weave t (b :: bs) (cur ++ [c])]
/-- Blanks ahead, between and behind change no word. -/
theorem ws_more (s by' : List UInt8) : ws ([32, 44] ++ weave s by' ++ [10, 44]) = ws s := by
  unfold ws
  rw [wsA_end (b := [10, 44]) (by intro c hc; simp at hc; rcases hc with rfl | rfl <;> rfl), wsA_blanks (b := [32, 44]) (by intro c hc; simp at hc; rcases hc with rfl | rfl <;> rfl), ws_weave]
end Go.Proofs.YtjjklchfcklahaaDoor

/- Texts of paths: the same words are the same path; a verb that stands for the ones behind it: in numbers alone. -/
namespace Go.Proofs.YtjjklchfcklahaaDoor
set_option linter.unusedVariables false
set_option linter.unusedSimpArgs false

theorem parseW_mono : ∀ (f g : Nat) (l : List (List UInt8)) (now : Int) (z : List Int × List Pnt), f ≤ g → parseW f l now = some z → parseW g l now = some z
  | 0, _, _, _, _, _, h => by simp [parseW] at h
  | f + 1, 0, _, _, _, hg, _ => absurd hg (by omega)
  | f + 1, g + 1, [], now, z, _, h => h
  | f + 1, g + 1, x :: l, now, z, hg, h => by
    rw [parseW] at h ⊢
    split at h
    · cases h
    · rename_i h0
      rw [if_neg h0]
      split at h
      · cases h
      · rename_i ps l2 hp
        split at h
        · cases h
        · rename_i vs qs hq
          rw [parseW_mono f g _ _ _ (by omega) hq]
          exact h
theorem ok_some {α β : Type} {x : Except α β} {z : β} (h : okO x = some z) : x = .ok z := by
  cases x with
  | error e => cases h
  | ok y => cases h; rfl
/-- A text of the same words, and no shorter, tells the same. -/
theorem parse_same {s t : List UInt8} (h : ws t = ws s) (hl : s.length ≤ t.length) {z : List Int × List Pnt} {i : Nat} (hs : parseR s = (z, i, 0)) : parseR t = (z, 0, 0) := by
  obtain ⟨vs, ps⟩ := z
  have hg := parse_good hs
  have hp : parseS (s.length + 1) s 0 = .ok (vs, ps) := by
    unfold parseR at hs
    split at hs
    · simp at hs
    · rename_i vs' ps' he
      split at hs
      · simp only [Prod.mk.injEq] at hs
        obtain ⟨⟨rfl, rfl⟩, _⟩ := hs
        exact he
      · rename_i h2
        simp only [Prod.mk.injEq] at hs
        exact absurd hs.2.2 h2
  have hw := parse_words (s.length + 1) s 0
  rw [hp] at hw
  have h2 := parseW_mono _ (t.length + 1) _ _ _ (by omega) hw.symm
  rw [← h, ← parse_words] at h2
  unfold parseR
  rw [ok_some h2]
  dsimp only
  rw [if_pos hg]
/-! ## Words of what is written -/
theorem ws_blank {c : UInt8} (h : blankB c = true) (t : List UInt8) : ws (c :: t) = ws t := by
  unfold ws; rw [wsA_blank h, if_pos rfl]
theorem ws_word {w : List UInt8} (h : Wd w) {r : List UInt8} (hr : r = [] ∨ ∃ c t, r = c :: t ∧ blankB c = true) : ws (w ++ r) = w :: ws r := by
  unfold ws
  rw [wsA_word h.2, List.nil_append]
  rcases hr with rfl | ⟨c, t, rfl, hc⟩
  · rw [wsA, if_neg h.1]; rfl
  · rw [wsA_blank hc, if_neg h.1, wsA_blank hc, if_pos rfl]
def numT (p : Pnt) : List UInt8 := pr p.1 ++ 32 :: pr p.2
theorem ws_num (p : Pnt) {r : List UInt8} (hr : r = [] ∨ ∃ c t, r = c :: t ∧ blankB c = true) : ws (numT p ++ r) = pr p.1 :: pr p.2 :: ws r := by
  unfold numT
  rw [List.append_assoc, List.cons_append, ws_word (pr_wd p.1) (.inr ⟨32, _, rfl, rfl⟩), ws_blank (by rfl), ws_word (pr_wd p.2) hr]
def onceR (t : List Pnt) : List UInt8 := t.flatMap (fun p => 44 :: numT p)
def eachR (t : List Pnt) : List UInt8 := t.flatMap (fun p => 32 :: 76 :: 32 :: numT p)
def onceT : List Pnt → List UInt8
  | [] => []
  | p :: t => 77 :: 32 :: (numT p ++ onceR t)
def eachT : List Pnt → List UInt8
  | [] => []
  | p :: t => 77 :: 32 :: (numT p ++ eachR t)
def onceW (t : List Pnt) : List (List UInt8) := t.flatMap (fun p => [pr p.1, pr p.2])
def eachW (t : List Pnt) : List (List UInt8) := t.flatMap (fun p => [[76], pr p.1, pr p.2])
theorem onceR_cut (t : List Pnt) : onceR t = [] ∨ ∃ c u, onceR t = c :: u ∧ blankB c = true := by
  cases t with
  | nil => exact .inl rfl
  | cons p t => exact .inr ⟨44, _, rfl, rfl⟩
theorem eachR_cut (t : List Pnt) : eachR t = [] ∨ ∃ c u, eachR t = c :: u ∧ blankB c = true := by
  cases t with
  | nil => exact .inl rfl
  | cons p t => exact .inr ⟨32, _, rfl, rfl⟩
theorem ws_onceR : ∀ t : List Pnt, ws (onceR t) = onceW t
  | [] => rfl
  | p :: t => by
    have e : onceR (p :: t) = 44 :: (numT p ++ onceR t) := by unfold onceR; rw [List.flatMap_cons]; rfl
    rw [e, ws_blank (by rfl), ws_num p (onceR_cut t), ws_onceR t]
    unfold onceW; rw [List.flatMap_cons]; rfl
theorem ws_eachR : ∀ t : List Pnt, ws (eachR t) = eachW t
  | [] => rfl
  | p :: t => by
    have e : eachR (p :: t) = 32 :: ([76] ++ 32 :: (numT p ++ eachR t)) := by unfold eachR; rw [List.flatMap_cons]; rfl
    rw [e, ws_blank (by rfl), ws_word (w := [76]) ⟨by simp, by decide⟩ (.inr ⟨32, _, rfl, rfl⟩), ws_blank (by rfl), ws_num p (eachR_cut t), ws_eachR t]
    unfold eachW; rw [List.flatMap_cons]; rfl
theorem ws_onceT (p : Pnt) (t : List Pnt) : ws (onceT (p :: t)) = [77] :: pr p.1 :: pr p.2 :: onceW t := by
  have e : onceT (p :: t) = [77] ++ 32 :: (numT p ++ onceR t) := rfl
  rw [e, ws_word (w := [77]) ⟨by simp, by decide⟩ (.inr ⟨32, _, rfl, rfl⟩), ws_blank (by rfl), ws_num p (onceR_cut t), ws_onceR]
theorem ws_eachT (p : Pnt) (t : List Pnt) : ws (eachT (p :: t)) = [77] :: pr p.1 :: pr p.2 :: eachW t := by
  have e : eachT (p :: t) = [77] ++ 32 :: (numT p ++ eachR t) := rfl
  rw [e, ws_word (w := [77]) ⟨by simp, by decide⟩ (.inr ⟨32, _, rfl, rfl⟩), ws_blank (by rfl), ws_num p (eachR_cut t), ws_eachR]
/-- No number is a letter. -/
theorem letter_pr (n : Int) : letterV (pr n) = 0 := by
  have h1 : ∀ k : UInt8, k.toNat > 57 → pr n ≠ [k] := fun k hk e => by
    unfold pr at e
    obtain ⟨c, t, hd, _⟩ := dec_first (n.natAbs / 256)
    have hc : 48 ≤ c.toNat ∧ c.toNat ≤ 57 := digs_dec (n.natAbs / 256) c (by rw [hd]; simp)
    unfold prW at e
    rw [hd] at e
    split at e
    · simp at e
    · simp only [List.nil_append, List.cons_append, List.cons.injEq] at e
      rw [e.1] at hc; omega
  unfold letterV
  rw [if_neg (h1 77 (by decide)), if_neg (h1 76 (by decide)), if_neg (h1 81 (by decide)), if_neg (h1 67 (by decide)), if_neg (h1 90 (by decide))]
/-- The numbers of points that were printed, where all are numbers. -/
def numsP : List Pnt → Option (List Pnt)
  | [] => some []
  | p :: t => match numV (pr p.1), numV (pr p.2) with
    | some a, some b => (numsP t).map (fun ps => (a, b) :: ps)
    | _, _ => none
theorem once_tells : ∀ (t : List Pnt) (f : Nat) (now : Int), now = 1 ∨ now = 2 → t.length < f → parseW f (onceW t) now = (numsP t).map (fun ps => (List.replicate t.length 2, ps))
  | t, 0, now, _, hf => absurd hf (Nat.not_lt_zero _)
  | [], f + 1, now, _, _ => rfl
  | p :: t, f + 1, now, hn, hf => by
    have e : onceW (p :: t) = pr p.1 :: pr p.2 :: onceW t := by unfold onceW; rw [List.flatMap_cons]; rfl
    have hnw : (if now = 1 then 2 else now) = (2 : Int) := by rcases hn with rfl | rfl <;> rfl
    rw [e, parseW, letter_pr, if_neg (by rcases hn with rfl | rfl <;> simp)]
    simp only [Int.lt_irrefl, if_false, hnw]
    rw [show (takesV 2).toNat = 1 from rfl, ptsW, numsP]
    cases numV (pr p.1) with
    | none => rfl
    | some a =>
      cases numV (pr p.2) with
      | none => rfl
      | some b =>
        dsimp only [ptsW]
        rw [once_tells t f 2 (.inr rfl) (by simpa using hf)]
        cases numsP t with
        | none => rfl
        | some ps => rfl
theorem each_tells : ∀ (t : List Pnt) (f : Nat) (now : Int), t.length < f → parseW f (eachW t) now = (numsP t).map (fun ps => (List.replicate t.length 2, ps))
  | t, 0, now, hf => absurd hf (Nat.not_lt_zero _)
  | [], f + 1, now, _ => rfl
  | p :: t, f + 1, now, hf => by
    have e : eachW (p :: t) = [76] :: pr p.1 :: pr p.2 :: eachW t := by unfold eachW; rw [List.flatMap_cons]; rfl
    rw [e, parseW, show letterV [76] = 2 from by decide, if_neg (by simp), if_pos (by decide), if_pos (by decide), show (takesV 2).toNat = 1 from rfl, ptsW, numsP]
    cases numV (pr p.1) with
    | none => rfl
    | some a =>
      cases numV (pr p.2) with
      | none => rfl
      | some b =>
        dsimp only [ptsW]
        rw [each_tells t f 2 (by simpa using hf)]
        cases numsP t with
        | none => rfl
        | some ps => rfl
theorem first_tells (p : Pnt) (l : List (List UInt8)) (f : Nat) : parseW (f + 1) ([77] :: pr p.1 :: pr p.2 :: l) 0 = match numV (pr p.1), numV (pr p.2) with
    | some a, some b => (parseW f l 1).map (fun z => (1 :: z.1, (a, b) :: z.2))
    | _, _ => none := by
  rw [parseW, show letterV [77] = 1 from by decide, if_neg (by simp), if_pos (by decide), if_pos (by decide), show (takesV 1).toNat = 1 from rfl, ptsW]
  cases numV (pr p.1) with
  | none => rfl
  | some a =>
    cases numV (pr p.2) with
    | none => rfl
    | some b =>
      dsimp only [ptsW]
      cases parseW f l 1 with
      | none => rfl
      | some z => rfl
end Go.Proofs.YtjjklchfcklahaaDoor

/- How a text of a path is parsed, round by round: what is left, and how much. No program. -/
namespace Go.Proofs.YtjjklchfcklahaaDoor
set_option linter.unusedVariables false
set_option linter.unusedSimpArgs false
set_option maxHeartbeats 1000000

theorem restW_lt {l : List UInt8} (h : wordW l ≠ []) : (restW l).length < l.length := by
  have := word_rest l
  have h2 := congrArg List.length this
  rw [List.length_append] at h2
  have : 0 < (wordW l).length := by
    cases hw : wordW l with
    | nil => exact absurd hw h
    | cons _ _ => simp
  omega
theorem num_ne {w : List UInt8} {n : Int} (h : numV w = some n) : w ≠ [] := by
  rintro rfl
  rw [num_nil] at h
  cases h
theorem pts_left : ∀ (k : Nat) (r : List UInt8) (ps : List Pnt) (r2 : List UInt8), ptsS k r = .ok (ps, r2) → r2.length + k ≤ r.length ∧ ps.length = k := by
  intro k
  induction k with
  | zero =>
    intro r ps r2 h
    unfold ptsS at h
    cases h
    exact ⟨by omega, rfl⟩
  | succ k ih =>
    intro r ps r2 h
    unfold ptsS at h
    split at h
    · cases h
    · rename_i a ha
      split at h
      · cases h
      · rename_i b hb
        split at h
        · cases h
        · rename_i ps' r3 h3
          cases h
          obtain ⟨h4, h5⟩ := ih _ _ _ h3
          have l1 := restW_lt (num_ne ha)
          have l2 := restB_le r
          have l3 := restW_lt (num_ne hb)
          have l4 := restB_le (restW (restB r))
          exact ⟨by omega, by simp [h5]⟩
/-- The verb that a word means behind the verb now; 0: none. -/
def nowV (w : List UInt8) (now : Int) : Int := if 0 < letterV w then letterV w else if now = 1 then 2 else now
/-- The fault of parsing on, or what is had with what comes. -/
def glue (vs : List Int) (ps : List Pnt) : Except Nat (List Int × List Pnt) → Except Nat (List Int × List Pnt)
  | .error n => .error n
  | .ok z => .ok (vs ++ z.1, ps ++ z.2)
theorem glue_nil (x : Except Nat (List Int × List Pnt)) : glue [] [] x = x := by
  cases x <;> rfl
theorem letter_bd (w : List UInt8) : 0 ≤ letterV w ∧ letterV w ≤ 5 := by
  unfold letterV; repeat (split; · omega)
  omega
theorem letter_ne {w : List UInt8} (h : 0 < letterV w) : w.length = 1 := by
  unfold letterV at h
  split at h
  · rename_i e; rw [e]; rfl
  · split at h
    · rename_i e; rw [e]; rfl
    · split at h
      · rename_i e; rw [e]; rfl
      · split at h
        · rename_i e; rw [e]; rfl
        · split at h
          · rename_i e; rw [e]; rfl
          · omega
/-- One round: the verb v stands at r's first word, or goes on; its points are ps1, and r2 is left. -/
theorem parse_round (f : Nat) (r : List UInt8) (now : Int) (hw : wordW (restB r) ≠ []) (hn : ¬ (letterV (wordW (restB r)) = 0 ∧ (now = 0 ∨ now = 5))) :
    parseS (f + 1) r now = match ptsS (takesV (nowV (wordW (restB r)) now)).toNat (if 0 < letterV (wordW (restB r)) then restW (restB r) else restB r) with
      | .error e => .error e
      | .ok (ps1, r2) => glue [nowV (wordW (restB r)) now] ps1 (parseS f r2 (nowV (wordW (restB r)) now)) := by
  rw [parseS, if_neg hw, if_neg hn]
  unfold nowV
  cases ptsS (takesV (if 0 < letterV (wordW (restB r)) then letterV (wordW (restB r)) else if now = 1 then 2 else now)).toNat (if 0 < letterV (wordW (restB r)) then restW (restB r) else restB r) with
  | error e => rfl
  | ok z =>
    obtain ⟨ps1, r2⟩ := z
    dsimp only
    cases parseS f r2 _ with
    | error e => rfl
    | ok z => rfl
theorem parse_stop (f : Nat) (r : List UInt8) (now : Int) (hw : wordW (restB r) = []) : parseS (f + 1) r now = .ok ([], []) := by
  rw [parseS, if_pos hw]
theorem parse_wrong (f : Nat) (r : List UInt8) (now : Int) (hw : wordW (restB r) ≠ []) (hn : letterV (wordW (restB r)) = 0 ∧ (now = 0 ∨ now = 5)) : parseS (f + 1) r now = .error (restB r).length := by
  rw [parseS, if_neg hw, if_pos hn]
theorem glue_glue (vs vs' : List Int) (ps ps' : List Pnt) (x : Except Nat (List Int × List Pnt)) : glue vs ps (glue vs' ps' x) = glue (vs ++ vs') (ps ++ ps') x := by
  cases x with
  | error n => rfl
  | ok z => simp [glue]
/-- Each round takes a byte at least. -/
theorem round_left {r : List UInt8} {now : Int} {ps1 : List Pnt} {r2 : List UInt8} (hw : wordW (restB r) ≠ []) (hn : ¬ (letterV (wordW (restB r)) = 0 ∧ (now = 0 ∨ now = 5))) (hnow : 0 ≤ now ∧ now ≤ 5)
    (h : ptsS (takesV (nowV (wordW (restB r)) now)).toNat (if 0 < letterV (wordW (restB r)) then restW (restB r) else restB r) = .ok (ps1, r2)) : r2.length < r.length := by
  obtain ⟨h1, h2⟩ := pts_left _ _ _ _ h
  have l1 := restB_le r
  have l2 := restW_lt hw
  by_cases hl : 0 < letterV (wordW (restB r))
  · rw [if_pos hl] at h1; omega
  · have l0 : letterV (wordW (restB r)) = 0 := by have := letter_bd (wordW (restB r)); omega
    rw [if_neg hl] at h1
    unfold nowV at h1
    rw [if_neg hl] at h1
    have h5 : ¬ (now = 0 ∨ now = 5) := fun k => hn ⟨l0, k⟩
    have : 1 ≤ (takesV (if now = 1 then 2 else now)).toNat := by
      unfold takesV
      by_cases e1 : now = 1
      · subst e1; decide
      · rw [if_neg e1]
        rcases (show now = 2 ∨ now = 3 ∨ now = 4 by omega) with rfl | rfl | rfl <;> decide
    omega
end Go.Proofs.YtjjklchfcklahaaDoor

/- Texts of paths, word by word: a machine that takes words tells the same as the document's parser. No program. -/
namespace Go.Proofs.YtjjklchfcklahaaDoor
set_option linter.unusedVariables false
set_option linter.unusedSimpArgs false
set_option maxHeartbeats 1000000

/-- The words of a text, each with how much of it is left there. -/
def wl (r : List UInt8) : List (Nat × List UInt8) :=
  if h : wordW (restB r) = [] then [] else ((restB r).length, wordW (restB r)) :: wl (restW (restB r))
termination_by r.length
decreasing_by
  have l1 := restB_le r
  have l2 := restW_lt h
  omega
theorem wl_nil {r : List UInt8} (h : wordW (restB r) = []) : wl r = [] := by rw [wl, dif_pos h]
theorem wl_cons {r : List UInt8} (h : wordW (restB r) ≠ []) : wl r = ((restB r).length, wordW (restB r)) :: wl (restW (restB r)) := by rw [wl, dif_neg h]
theorem wl_rest (r : List UInt8) : wl (restB r) = wl r := by
  by_cases h : wordW (restB r) = []
  · rw [wl_nil h, wl_nil (by rw [restB_idem]; exact h)]
  · rw [wl_cons h, wl_cons (by rw [restB_idem]; exact h), restB_idem]
theorem rest_none {r : List UInt8} (h : wordW (restB r) = []) : restB r = [] := by
  cases hr : restB r with
  | nil => rfl
  | cons c t =>
    exfalso
    have hi := restB_idem r
    rw [hr] at h hi
    cases hb : blankB c with
    | true =>
      rw [restB_cons hb] at hi
      have := congrArg List.length hi
      have l := restB_le t
      rw [List.length_cons] at this
      omega
    | false =>
      unfold wordW at h
      rw [List.takeWhile_cons, hb] at h
      exact absurd h (by simp)

/-- What a machine has: verbs, points, how many numbers the last verb still takes, the verb that numbers tell. -/
structure St where
  vs : List Int
  ps : List Pnt
  la : Nat
  ag : Int
def setY (ps : List Pnt) (y : Int) : List Pnt := ps.dropLast ++ [((ps.getLast?.getD (0, 0)).1, y)]
theorem setY_snoc (ps : List Pnt) (x z y : Int) : setY (ps ++ [(x, z)]) y = ps ++ [(x, y)] := by
  unfold setY
  simp
def numS (s : St) (w : List UInt8) : Option St :=
  match numV w with
  | none => none
  | some a => some ⟨s.vs, if s.la % 2 = 0 then s.ps ++ [(a, 0)] else setY s.ps a, s.la - 1, s.ag⟩
/-- The verb that numbers tell behind this one; 0: none. -/
def agV (v : Int) : Int := if v = 1 then 2 else if v = 5 then 0 else v
def begS (s : St) (v : Int) : St := ⟨s.vs ++ [v], s.ps, 2 * (takesV v).toNat, agV v⟩
def takeS (s : St) (w : List UInt8) : Option St :=
  if 0 < s.la then numS s w
  else if letterV w ≠ 0 then some (begS s (letterV w))
  else if s.ag = 0 then none
  else numS (begS s s.ag) w
/-- Words in their order: what is had behind them; else how much is left at the one that is wrong. -/
def runS : St → List (Nat × List UInt8) → Except Nat St
  | s, [] => .ok s
  | s, (n, w) :: t => match takeS s w with
    | none => .error n
    | some s' => runS s' t
def finS : Except Nat St → Except Nat (List Int × List Pnt)
  | .error n => .error n
  | .ok s => if 0 < s.la then .error 0 else .ok (s.vs, s.ps)
theorem run_app : ∀ (s : St) (a b : List (Nat × List UInt8)), runS s (a ++ b) = match runS s a with
    | .error n => .error n
    | .ok s' => runS s' b
  | s, [], b => rfl
  | s, (n, w) :: t, b => by
    rw [List.cons_append, runS, runS]
    cases takeS s w with
    | none => rfl
    | some s' => exact run_app s' t b
theorem take_num {s : St} {w : List UInt8} (h : 0 < s.la) : takeS s w = numS s w := by unfold takeS; rw [if_pos h]
/-- Numbers of k points. -/
theorem run_pts : ∀ (k : Nat) (vs : List Int) (ps : List Pnt) (ag : Int) (r : List UInt8),
    finS (runS ⟨vs, ps, 2 * k, ag⟩ (wl r)) = match ptsS k r with
      | .error e => .error e
      | .ok (ps1, r2) => finS (runS ⟨vs, ps ++ ps1, 0, ag⟩ (wl r2))
  | 0, vs, ps, ag, r => by rw [ptsS]; simp
  | k + 1, vs, ps, ag, r => by
    rw [ptsS]
    by_cases h : wordW (restB r) = []
    · rw [wl_nil h, h, num_nil, rest_none h, runS, finS, if_pos (by dsimp only; omega)]; rfl
    · rw [wl_cons h, runS, take_num (by dsimp only; omega), numS]
      cases h1 : numV (wordW (restB r)) with
      | none => rfl
      | some a =>
        dsimp only
        rw [if_pos (by omega)]
        by_cases h' : wordW (restB (restW (restB r))) = []
        · rw [wl_nil h', h', num_nil, rest_none h', runS, finS, if_pos (by dsimp only; omega)]; rfl
        · rw [wl_cons h', runS, take_num (by dsimp only; omega), numS]
          cases h2 : numV (wordW (restB (restW (restB r)))) with
          | none => rfl
          | some b =>
            dsimp only
            rw [if_neg (by omega), setY_snoc, show 2 * (k + 1) - 1 - 1 = 2 * k by omega, run_pts k vs (ps ++ [(a, b)]) ag _]
            cases ptsS k (restW (restB (restW (restB r)))) with
            | error e => rfl
            | ok z => simp
theorem agV_ag {v : Int} (h : v = 2 ∨ v = 3 ∨ v = 4) : agV v = v := by rcases h with rfl | rfl | rfl <;> rfl
/-- All words: as the document's parser. -/
theorem run_all : ∀ (f : Nat) (vs : List Int) (ps : List Pnt) (now : Int) (r : List UInt8), r.length < f → 0 ≤ now ∧ now ≤ 5 →
    finS (runS ⟨vs, ps, 0, agV now⟩ (wl r)) = glue vs ps (parseS f r now)
  | 0, vs, ps, now, r, h, _ => absurd h (Nat.not_lt_zero _)
  | f + 1, vs, ps, now, r, hf, hnow => by
    by_cases h : wordW (restB r) = []
    · rw [wl_nil h, parse_stop f r now h, runS, finS, if_neg (by dsimp only; omega)]
      simp [glue]
    · by_cases h0 : letterV (wordW (restB r)) = 0 ∧ (now = 0 ∨ now = 5)
      · rw [parse_wrong f r now h h0, wl_cons h, runS, takeS, if_neg (by dsimp only; omega), if_neg (by rw [h0.1]; simp), if_pos (by
          rcases h0.2 with rfl | rfl <;> rfl)]
        rfl
      · rw [parse_round f r now h h0]
        have hlb := letter_bd (wordW (restB r))
        by_cases hl : 0 < letterV (wordW (restB r))
        · have hrl := fun ps1 r2 => @round_left r now ps1 r2 h h0 hnow
          rw [if_pos hl] at hrl ⊢
          have hnv : nowV (wordW (restB r)) now = letterV (wordW (restB r)) := by unfold nowV; rw [if_pos hl]
          rw [hnv] at hrl ⊢
          rw [wl_cons h, runS, takeS, if_neg (by dsimp only; omega), if_pos (by omega)]
          dsimp only [begS]
          rw [run_pts]
          cases hp : ptsS (takesV (letterV (wordW (restB r)))).toNat (restW (restB r)) with
          | error e => rfl
          | ok z =>
            obtain ⟨ps1, r2⟩ := z
            dsimp only
            have hlt := hrl ps1 r2 hp
            rw [run_all f _ _ _ r2 (by omega) (by omega), glue_glue]
        · have hl0 : letterV (wordW (restB r)) = 0 := by omega
          have hn : now = 1 ∨ now = 2 ∨ now = 3 ∨ now = 4 := by omega
          have hrl := fun ps1 r2 => @round_left r now ps1 r2 h h0 hnow
          rw [if_neg hl] at hrl ⊢
          have hnv : nowV (wordW (restB r)) now = agV now := by
            unfold nowV
            rw [if_neg hl]
            rcases hn with rfl | rfl | rfl | rfl <;> rfl
          have ha : agV now = 2 ∨ agV now = 3 ∨ agV now = 4 := by rcases hn with rfl | rfl | rfl | rfl <;> decide
          rw [hnv] at hrl ⊢
          have hk : 0 < 2 * (takesV (agV now)).toNat := by rcases ha with e | e | e <;> rw [e] <;> decide
          have e1 : runS ⟨vs, ps, 0, agV now⟩ (wl r) = runS (begS ⟨vs, ps, 0, agV now⟩ (agV now)) (wl r) := by
            rw [wl_cons h, runS, runS, takeS, if_neg (by dsimp only; omega), if_neg (by rw [hl0]; simp), if_neg (by dsimp only; omega), take_num (by dsimp only [begS]; exact hk)]
          rw [e1, ← wl_rest r]
          dsimp only [begS]
          rw [run_pts, agV_ag ha]
          cases hp : ptsS (takesV (agV now)).toNat (restB r) with
          | error e => rfl
          | ok z =>
            obtain ⟨ps1, r2⟩ := z
            dsimp only
            have hlt := hrl ps1 r2 hp
            have hi := run_all f (vs ++ [agV now]) (ps ++ ps1) (agV now) r2 (by omega) (by omega)
            rw [agV_ag ha] at hi
            rw [hi, glue_glue]
/-- What a text tells, word by word. -/
theorem parseR_run (l : List UInt8) : parseR l = match runS ⟨[], [], 0, 0⟩ (wl l) with
    | .error n => (([], []), l.length - n, 80)
    | .ok s => if 0 < s.la then (([], []), l.length, 80) else if pathE s.vs s.ps = 0 then ((s.vs, s.ps), 0, 0) else (([], []), 0, pathE s.vs s.ps) := by
  have h := run_all (l.length + 1) [] [] 0 l (by omega) (by omega)
  rw [glue_nil] at h
  unfold parseR
  rw [← h]
  show (match finS (runS ⟨[], [], 0, 0⟩ (wl l)) with
    | .error e => _
    | .ok (vs, ps) => _) = _
  cases runS ⟨[], [], 0, 0⟩ (wl l) with
  | error n => rfl
  | ok s =>
    unfold finS
    dsimp only
    by_cases hs : 0 < s.la
    · rw [if_pos hs, if_pos hs]; rfl
    · rw [if_neg hs, if_neg hs]
/-- Each word is no longer than what is left there; there are no more words than bytes. -/
theorem wl_len : ∀ (n : Nat) (r : List UInt8), r.length ≤ n → (wl r).length ≤ r.length := by
  intro n
  induction n with
  | zero =>
    intro r h
    have : r = [] := List.eq_nil_of_length_eq_zero (by omega)
    subst this
    rw [wl_nil (by rfl)]; exact Nat.le_refl _
  | succ n ih =>
    intro r h
    by_cases hw : wordW (restB r) = []
    · rw [wl_nil hw]; exact Nat.zero_le _
    · have l1 := restB_le r
      have l2 := restW_lt hw
      have := ih (restW (restB r)) (by omega)
      rw [wl_cons hw, List.length_cons]
      omega
/-- What has been taken of so many words. -/
theorem num_bd {s s' : St} {w : List UInt8} (h : numS s w = some s') (hp : s.ps ≠ [] ∨ s.la % 2 = 0) (hl : 0 < s.la) : s'.vs = s.vs ∧ s'.ps.length ≤ s.ps.length + 1 ∧ s.ps.length ≤ s'.ps.length ∧ s'.la = s.la - 1 ∧ s'.ag = s.ag ∧ (s'.la % 2 = 1 → s'.ps ≠ []) := by
  unfold numS at h
  split at h
  · cases h
  · cases h
    refine ⟨rfl, ?_, ?_, rfl, rfl, ?_⟩
    · dsimp only
      split
      · simp
      · unfold setY; simp; try omega
    · dsimp only
      split
      · simp
      · unfold setY
        simp
        cases hq : s.ps with
        | nil => rcases hp with k | k
                 · exact absurd hq k
                 · omega
        | cons a t => simp
    · intro _
      dsimp only
      split
      · simp
      · unfold setY; simp
structure Fit (n : Nat) (s : St) : Prop where
  v : s.vs.length ≤ n
  p : s.ps.length ≤ n
  l : s.la ≤ 6
  a : s.ag = 0 ∨ s.ag = 2 ∨ s.ag = 3 ∨ s.ag = 4
  h : s.la % 2 = 1 → s.ps ≠ []
theorem letter_some {w : List UInt8} (h : letterV w ≠ 0) : letterV w = 1 ∨ letterV w = 2 ∨ letterV w = 3 ∨ letterV w = 4 ∨ letterV w = 5 := by
  have := letter_bd w
  omega
theorem beg_fit {n : Nat} {s : St} {v : Int} (h : Fit n s) (hv : v = 1 ∨ v = 2 ∨ v = 3 ∨ v = 4 ∨ v = 5) : (begS s v).vs.length = s.vs.length + 1 ∧ (begS s v).ps = s.ps ∧ (begS s v).la ≤ 6 ∧ (begS s v).la % 2 = 0 ∧ ((begS s v).ag = 0 ∨ (begS s v).ag = 2 ∨ (begS s v).ag = 3 ∨ (begS s v).ag = 4) := by
  unfold begS
  refine ⟨by simp, rfl, ?_, by dsimp only; omega, ?_⟩
  · dsimp only; rcases hv with rfl | rfl | rfl | rfl | rfl <;> decide
  · dsimp only; rcases hv with rfl | rfl | rfl | rfl | rfl <;> decide
theorem take_fit {n : Nat} {s s' : St} {w : List UInt8} (h : Fit n s) (ht : takeS s w = some s') : Fit (n + 1) s' := by
  unfold takeS at ht
  have h1 := h.v
  have h2 := h.p
  split at ht
  · rename_i hl
    obtain ⟨b1, b2, b3, b4, b5, b6⟩ := num_bd ht (by
      by_cases e : s.la % 2 = 0
      · exact .inr e
      · exact .inl (h.h (by omega))) hl
    exact ⟨by rw [b1]; omega, by omega, by have := h.l; omega, by rw [b5]; exact h.a, b6⟩
  · split at ht
    · rename_i hw
      cases ht
      obtain ⟨b1, b2, b3, b4, b5⟩ := beg_fit h (letter_some hw)
      exact ⟨by omega, by rw [b2]; omega, b3, b5, fun e => by omega⟩
    · split at ht
      · cases ht
      · rename_i ha
        have hv : s.ag = 1 ∨ s.ag = 2 ∨ s.ag = 3 ∨ s.ag = 4 ∨ s.ag = 5 := by have := h.a; omega
        obtain ⟨b1, b2, b3, b4, b5⟩ := beg_fit h hv
        have hpos : 0 < (begS s s.ag).la := by
          unfold begS
          dsimp only
          rcases h.a with e | e | e | e
          · exact absurd e ha
          all_goals (rw [e]; decide)
        obtain ⟨c1, c2, c3, c4, c5, c6⟩ := num_bd ht (.inr b4) hpos
        exact ⟨by rw [c1]; omega, by rw [b2] at c2; omega, by omega, by rw [c5]; exact b5, c6⟩
theorem run_fit : ∀ (l : List (Nat × List UInt8)) (n : Nat) (s s' : St), Fit n s → runS s l = .ok s' → Fit (n + l.length) s'
  | [], n, s, s', h, e => by cases e; exact h
  | (k, w) :: t, n, s, s', h, e => by
    rw [runS] at e
    cases ht : takeS s w with
    | none => rw [ht] at e; cases e
    | some z =>
      rw [ht] at e
      have := run_fit t (n + 1) z s' (take_fit h ht) e
      rw [List.length_cons, show n + (t.length + 1) = n + 1 + t.length by omega]
      exact this
end Go.Proofs.YtjjklchfcklahaaDoor

/- What a text tells as a number is a number and a fault. -/
namespace Go.Proofs.YtjjklchfcklahaaDoor
set_option linter.unusedVariables false
set_option linter.unusedSimpArgs false
theorem parse_parts (l : List UInt8) : ∃ n e, parseV l = .tuple #[.int .i64 n, .int .i64 e] := by
  have h4 : ∀ (sg wh : Int) (l : List UInt8) (num ten : Int), ∃ n e, p4 sg wh l num ten = .tuple #[.int .i64 n, .int .i64 e] := by
    intro sg wh l
    induction l with
    | nil => intro num ten; rw [p4]; split; exact checkV_parts _ _ _; exact ⟨_, _, rfl⟩
    | cons c t ih => intro num ten; rw [p4]; split; exact ih _ _; exact ⟨_, _, rfl⟩
  have h2 : ∀ (sg wh : Int) (l : List UInt8), ∃ n e, p2 sg wh l = .tuple #[.int .i64 n, .int .i64 e] := by
    intro sg wh l
    cases l with
    | nil => exact ⟨_, _, rfl⟩
    | cons c t =>
      rw [p2]; split
      · unfold p3; split; exact ⟨_, _, rfl⟩; exact h4 _ _ _ _ _
      · exact ⟨_, _, rfl⟩
  have h1 : ∀ (sg : Int) (l : List UInt8) (wh : Int) (n : Nat), ∃ x e, p1 sg l wh n = .tuple #[.int .i64 x, .int .i64 e] := by
    intro sg l
    induction l with
    | nil => intro wh n; rw [p1]; split; exact ⟨_, _, rfl⟩; exact checkV_parts _ _ _
    | cons c t ih =>
      intro wh n; rw [p1]; split
      · exact ih _ _
      · split
        · exact ⟨_, _, rfl⟩
        · exact h2 _ _ _
  unfold parseV
  split
  · exact ⟨_, _, rfl⟩
  · split
    · exact h1 _ _ _ _
    · exact h1 _ _ _ _
end Go.Proofs.YtjjklchfcklahaaDoor

/- Points' numbers told one by one; what a text that is parsed to some place is worth. No program. -/
namespace Go.Proofs.YtjjklchfcklahaaDoor
set_option linter.unusedVariables false
set_option linter.unusedSimpArgs false
set_option maxHeartbeats 1000000

def glueP (q : List Pnt) : Except Nat (List Pnt × List UInt8) → Except Nat (List Pnt × List UInt8)
  | .error e => .error e
  | .ok z => .ok (q ++ z.1, z.2)
theorem glueP_nil (x : Except Nat (List Pnt × List UInt8)) : glueP [] x = x := by cases x <;> rfl
theorem glueP_glueP (a b : List Pnt) (x : Except Nat (List Pnt × List UInt8)) : glueP a (glueP b x) = glueP (a ++ b) x := by
  cases x with
  | error e => rfl
  | ok z => simp [glueP]
theorem pts_bad1 {k : Nat} {r : List UInt8} (h : numV (wordW (restB r)) = none) : ptsS (k + 1) r = .error (restB r).length := by
  rw [ptsS, h]
theorem pts_bad2 {k : Nat} {r : List UInt8} {a : Int} (h : numV (wordW (restB r)) = some a) (h2 : numV (wordW (restB (restW (restB r)))) = none) : ptsS (k + 1) r = .error (restB (restW (restB r))).length := by
  rw [ptsS, h]; dsimp only; rw [h2]
theorem pts_good {k : Nat} {r : List UInt8} {a b : Int} (h : numV (wordW (restB r)) = some a) (h2 : numV (wordW (restB (restW (restB r)))) = some b) : ptsS (k + 1) r = glueP [(a, b)] (ptsS k (restW (restB (restW (restB r))))) := by
  rw [ptsS, h]; dsimp only; rw [h2]; dsimp only
  cases ptsS k _ with
  | error e => rfl
  | ok z => rfl
theorem num_of {w : List UInt8} {n e : Int} (h : parseV w = .tuple #[.int .i64 n, .int .i64 e]) : numV w = if e = 0 then some n else none := by
  unfold numV tupI
  rw [h]
  simp
/-- The rest behind the word at place b. -/
theorem rest_at {l : List UInt8} {b : Nat} {r wd : List UInt8} (h : l.drop b = restB r) (hw : wd = wordW (restB r)) : l.drop (b + wd.length) = restW (restB r) := by
  rw [← List.drop_drop, h, hw]
  have := word_rest (restB r)
  conv => lhs; arg 2; rw [← this]
  rw [List.drop_left]
theorem parse_err {l : List UInt8} {n : Nat} (h : parseS (l.length + 1) l 0 = .error n) : parseR l = (([], []), l.length - n, 80) := by
  unfold parseR; rw [h]
theorem parse_fine {l : List UInt8} {vs : List Int} {ps : List Pnt} (h : parseS (l.length + 1) l 0 = .ok (vs, ps)) : parseR l = if pathE vs ps = 0 then ((vs, ps), 0, 0) else (([], []), 0, pathE vs ps) := by
  unfold parseR; rw [h]
theorem takes_le (v : Int) : takesV v ≤ 3 := by
  unfold takesV; repeat (first | omega | split)
theorem needs_le8 : ∀ vs : List Int, needs vs ≤ 3 * (vs.length : Int)
  | [] => by simp [needs]
  | v :: t => by
    have h1 := needs_le8 t
    have h2 := takes_le v
    unfold needs
    rw [List.length_cons]
    omega
/-- A path that is told is not long. -/
theorem parse_lens {l : List UInt8} {vs : List Int} {ps : List Pnt} {i : Nat} {e : Int} (h : parseR l = ((vs, ps), i, e)) : vs.length ≤ 512 ∧ ps.length ≤ 1536 := by
  by_cases he : e = 0
  · subst he
    obtain ⟨h1, h2, h3, h4⟩ := check_ok.1 (parse_good h)
    have := needs_le8 vs
    exact ⟨h1, by omega⟩
  · obtain ⟨h1, h2, _⟩ := parse_bad h he
    rw [h1, h2]; exact ⟨by simp, by simp⟩
end Go.Proofs.YtjjklchfcklahaaDoor

/- How long the texts of paths are, and what of a text lies behind so many verbs. No program. -/
namespace Go.Proofs.YtjjklchfcklahaaDoor
set_option linter.unusedVariables false
set_option linter.unusedSimpArgs false
set_option maxHeartbeats 1000000

theorem pr_len (n : Int) (hn : -9223372036854775808 ≤ n ∧ n ≤ 9223372036854775807) : (pr n).length ≤ 30 := by
  unfold pr prW
  have hd := Lib.decDigits_length (n.natAbs / 256)
  have hd2 := Lib.nDigits_le20 (n.natAbs / 256) (by omega)
  have hf := frac_len (show n.natAbs % 256 < 256 from Nat.mod_lt _ (by decide))
  split <;> split <;> simp <;> omega
def Int64P (p : Pnt) : Prop := (-9223372036854775808 ≤ p.1 ∧ p.1 ≤ 9223372036854775807) ∧ (-9223372036854775808 ≤ p.2 ∧ p.2 ≤ 9223372036854775807)
theorem ptT_len (p : Pnt) (h : Int64P p) : (ptT p).length ≤ 62 := by
  have h1 := pr_len p.1 h.1
  have h2 := pr_len p.2 h.2
  unfold ptT; simp; omega
theorem pts_len (ps : List Pnt) (h : ∀ p ∈ ps, Int64P p) : (ps.flatMap ptT).length ≤ 62 * ps.length := by
  induction ps with
  | nil => simp
  | cons p ps ih =>
    have h1 := ptT_len p (h p (by simp))
    have h2 := ih (fun q hq => h q (by simp [hq]))
    simp at h2 ⊢; omega
theorem prS_le : ∀ (vs : List Int) (ps : List Pnt), (∀ p ∈ ps, Int64P p) → (prS vs ps).length ≤ 2 * vs.length + 62 * ps.length := by
  intro vs
  induction vs with
  | nil => intro ps _; simp [prS]
  | cons v t ih =>
    intro ps h
    have h1 := pts_len (ps.take (takesV v).toNat) (fun p hp => h p (List.mem_of_mem_take hp))
    have h2 := ih (ps.drop (takesV v).toNat) (fun p hp => h p (List.mem_of_mem_drop hp))
    have h3 : (ps.take (takesV v).toNat).length + (ps.drop (takesV v).toNat).length = ps.length := by rw [← List.length_append, List.take_append_drop]
    unfold prS
    simp only [List.length_cons, List.length_append]
    omega
end Go.Proofs.YtjjklchfcklahaaDoor

/- Blanks woven into a text, one byte more at a time. Own work. -/
namespace Go.Proofs.YtjjklchfcklahaaDoor
open Go.RowKit
set_option linter.unusedVariables false
set_option linter.unusedSimpArgs false

/-- A byte as Go holds it. -/
def bV (b : UInt8) : Value := .int .u8 (b.toNat : Int)
theorem weave_plain : ∀ (l bs : List UInt8) (c : UInt8), (c ≠ 32 ∨ bs.length ≤ l.count 32) → weave (l ++ [c]) bs = weave l bs ++ [c]
  | l, [], c, _ => by rw [weave_nil, weave_nil]
  | [], b :: bs, c, h => by
    have h1 : c ≠ 32 := by
      rcases h with h | h
      · exact h
      · simp at h
    simp [weave, h1]
  | x :: l, b :: bs, c, h => by
    by_cases hx : x = 32
    · subst hx
      have h' : c ≠ 32 ∨ bs.length ≤ l.count 32 := by
        rcases h with h | h
        · exact .inl h
        · right; rw [List.count_cons_self, List.length_cons] at h; omega
      rw [List.cons_append, weave, if_pos rfl, weave, if_pos rfl, weave_plain l bs c h']; simp
    · have h' : c ≠ 32 ∨ (b :: bs).length ≤ l.count 32 := by
        rcases h with h | h
        · exact .inl h
        · right; rw [List.count_cons_of_ne hx] at h; exact h
      rw [List.cons_append, weave, if_neg hx, weave, if_neg hx, weave_plain l (b :: bs) c h']; rfl
theorem weave_blank : ∀ (l bs : List UInt8) (b : UInt8), bs[l.count 32]? = some b → weave (l ++ [32]) bs = weave l bs ++ 32 :: blk b
  | l, [], b, h => by simp at h
  | [], b0 :: bs, b, h => by
    obtain rfl : b0 = b := by simpa using h
    simp [weave]
  | x :: l, b0 :: bs, b, h => by
    by_cases hx : x = 32
    · subst hx
      rw [List.count_cons_self, List.getElem?_cons_succ] at h
      rw [List.cons_append, weave, if_pos rfl, weave, if_pos rfl, weave_blank l bs b h]; simp
    · rw [List.count_cons_of_ne hx] at h
      rw [List.cons_append, weave, if_neg hx, weave, if_neg hx, weave_blank l (b0 :: bs) b h]; rfl
theorem blk_len (b : UInt8) : (blk b).length ≤ 2 := by
  unfold blk
  split
  · simp
  · split
    · simp
    · split
      · simp
      · split <;> simp
theorem weave_len : ∀ l bs : List UInt8, l.length ≤ (weave l bs).length ∧ (weave l bs).length ≤ 3 * l.length
  | [], bs => by simp [weave]
  | x :: l, [] => by rw [weave_nil, List.length_cons]; omega
  | x :: l, b :: bs => by
    rw [weave]
    have h1 := weave_len l bs
    have h2 := weave_len l (b :: bs)
    have h3 := blk_len b
    split <;> simp only [List.length_cons, List.length_append] <;> omega
theorem blanks_same {s bs : List UInt8} {z : List Int × List Pnt} {i : Nat} (hs : parseR s = (z, i, 0)) : parseR ([32, 44] ++ weave s bs ++ [10, 44]) = (z, 0, 0) :=
  parse_same (ws_more s bs) (by have := weave_len s bs; simp only [List.length_append]; omega) hs
end Go.Proofs.YtjjklchfcklahaaDoor

/- A verb that stands for the ones behind it, and the same ones told each by each, are the same path: in numbers alone. -/
namespace Go.Proofs.YtjjklchfcklahaaDoor
set_option linter.unusedVariables false
set_option linter.unusedSimpArgs false

theorem numsP_len : ∀ (t ps : List Pnt), numsP t = some ps → ps.length = t.length
  | [], ps, h => by cases h; rfl
  | p :: t, ps, h => by
    unfold numsP at h
    cases ha : numV (pr p.1) with
    | none => rw [ha] at h; cases h
    | some a =>
      cases hb : numV (pr p.2) with
      | none => rw [ha, hb] at h; cases h
      | some b =>
        rw [ha, hb] at h
        dsimp only at h
        cases ht : numsP t with
        | none => rw [ht] at h; cases h
        | some qs => rw [ht] at h; cases h; rw [List.length_cons, List.length_cons, numsP_len t qs ht]
theorem chk_lines : ∀ (n : Nat) (p : Int), p ≠ 5 → chk p (List.replicate n 2) = 0
  | 0, p, _ => rfl
  | n + 1, p, h => by
    rw [List.replicate_succ]
    exact chk_mk (by decide) (fun _ => h) (chk_lines n 2 (by decide))
theorem needs_lines : ∀ n : Nat, needs (List.replicate n 2) = (n : Int)
  | 0 => rfl
  | n + 1 => by rw [List.replicate_succ, needs, needs_lines n, takes_2]; omega
theorem lines_may {n : Nat} (hn : n ≤ 500) {ps : List Pnt} (hp : ps.length = n + 1) : pathE (1 :: List.replicate n 2) ps = 0 ∨ pathE (1 :: List.replicate n 2) ps = 72 := by
  have h1 : chk 5 (1 :: List.replicate n 2) = 0 := chk_mk (by decide) (fun h => absurd rfl h) (chk_lines n 1 (by decide))
  have h2 : needs (1 :: List.replicate n 2) = (ps.length : Int) := by rw [needs, needs_lines, takes_1, hp]; omega
  unfold pathE
  rw [if_neg (by rw [List.length_cons, List.length_replicate]; omega), if_neg (by simpa using h1), if_neg (by simpa using h2)]
  cases ps.any farV
  · exact .inl rfl
  · exact .inr rfl
theorem onceR_len : ∀ t : List Pnt, t.length ≤ (onceR t).length
  | [] => Nat.le_refl _
  | p :: t => by
    have e : onceR (p :: t) = 44 :: (numT p ++ onceR t) := by unfold onceR; rw [List.flatMap_cons]; rfl
    have := onceR_len t
    rw [e, List.length_cons, List.length_cons, List.length_append]; omega
theorem eachR_len : ∀ t : List Pnt, t.length ≤ (eachR t).length
  | [] => Nat.le_refl _
  | p :: t => by
    have e : eachR (p :: t) = 32 :: 76 :: 32 :: (numT p ++ eachR t) := by unfold eachR; rw [List.flatMap_cons]; rfl
    have := eachR_len t
    rw [e, List.length_cons, List.length_cons, List.length_cons, List.length_cons, List.length_append]; omega
theorem both_tell (p : Pnt) (t : List Pnt) : okO (parseS ((onceT (p :: t)).length + 1) (onceT (p :: t)) 0) = (numsP (p :: t)).map (fun ps => (1 :: List.replicate t.length 2, ps)) ∧
    okO (parseS ((eachT (p :: t)).length + 1) (eachT (p :: t)) 0) = (numsP (p :: t)).map (fun ps => (1 :: List.replicate t.length 2, ps)) := by
  have h1 : t.length < (onceT (p :: t)).length := by
    have := onceR_len t
    show t.length < (77 :: 32 :: (numT p ++ onceR t)).length
    rw [List.length_cons, List.length_cons, List.length_append]; omega
  have h2 : t.length < (eachT (p :: t)).length := by
    have := eachR_len t
    show t.length < (77 :: 32 :: (numT p ++ eachR t)).length
    rw [List.length_cons, List.length_cons, List.length_append]; omega
  constructor
  · rw [parse_words, ws_onceT, first_tells, once_tells t _ 1 (.inl rfl) h1, numsP]
    cases numV (pr p.1) with
    | none => rfl
    | some a =>
      cases numV (pr p.2) with
      | none => rfl
      | some b => cases numsP t <;> rfl
  · rw [parse_words, ws_eachT, first_tells, each_tells t _ 1 h2, numsP]
    cases numV (pr p.1) with
    | none => rfl
    | some a =>
      cases numV (pr p.2) with
      | none => rfl
      | some b => cases numsP t <;> rfl
theorem tells_of {s : List UInt8} {o : Option (List Int × List Pnt)} (h : okO (parseS (s.length + 1) s 0) = o) :
    (o = none → ∃ i, parseR s = (([], []), i, 80)) ∧ (∀ vs ps, o = some (vs, ps) → parseR s = if pathE vs ps = 0 then ((vs, ps), 0, 0) else (([], []), 0, pathE vs ps)) := by
  unfold parseR
  cases hp : parseS (s.length + 1) s 0 with
  | error e => rw [hp] at h; exact ⟨fun _ => ⟨_, rfl⟩, fun vs ps ho => by rw [← h] at ho; cases ho⟩
  | ok z =>
    rw [hp] at h
    refine ⟨fun ho => ?_, fun vs ps ho => ?_⟩
    · rw [ho] at h; cases h
    · rw [ho] at h; cases h; rfl
/-- Once, and each by each. -/
theorem again_same (l : List Pnt) (hl : l.length ≤ 30) : ∃ z i j e, parseR (onceT l) = (z, i, e) ∧ parseR (eachT l) = (z, j, e) ∧ (e = 0 ∨ e = 72 ∨ e = 80) ∧ (e = 0 → i = 0 ∧ j = 0 ∧ z.1.length = l.length) := by
  cases l with
  | nil => exact ⟨([], []), 0, 0, 0, by decide, by decide, .inl rfl, fun _ => ⟨rfl, rfl, rfl⟩⟩
  | cons p t =>
    rw [List.length_cons] at hl
    obtain ⟨h1, h2⟩ := both_tell p t
    cases hn : numsP (p :: t) with
    | none =>
      rw [hn] at h1 h2
      obtain ⟨i, hi⟩ := (tells_of h1).1 rfl
      obtain ⟨j, hj⟩ := (tells_of h2).1 rfl
      exact ⟨([], []), i, j, 80, hi, hj, .inr (.inr rfl), fun h => by cases h⟩
    | some ps =>
      rw [hn] at h1 h2
      have a := (tells_of h1).2 _ _ rfl
      have b := (tells_of h2).2 _ _ rfl
      have hlen := numsP_len _ _ hn
      rw [List.length_cons] at hlen
      rcases lines_may (n := t.length) (by omega) hlen with h | h
      · rw [if_pos h] at a b
        exact ⟨_, 0, 0, 0, a, b, .inl rfl, fun _ => ⟨rfl, rfl, by simp⟩⟩
      · rw [if_neg (by rw [h]; decide), h] at a b
        exact ⟨_, 0, 0, 72, a, b, .inr (.inl rfl), fun h => by cases h⟩
end Go.Proofs.YtjjklchfcklahaaDoor

/- Two texts of the same points, grown point by point. No program. -/
namespace Go.Proofs.YtjjklchfcklahaaDoor
set_option linter.unusedVariables false
set_option linter.unusedSimpArgs false
theorem once_snoc (l : List Pnt) (p : Pnt) : onceT (l ++ [p]) = if l = [] then 77 :: 32 :: numT p else onceT l ++ 44 :: numT p := by
  cases l with
  | nil => simp [onceT, onceR]
  | cons q t => simp [onceT, onceR]
theorem each_snoc (l : List Pnt) (p : Pnt) : eachT (l ++ [p]) = if l = [] then 77 :: 32 :: numT p else eachT l ++ 32 :: 76 :: 32 :: numT p := by
  cases l with
  | nil => simp [eachT, eachR]
  | cons q t => simp [eachT, eachR]
end Go.Proofs.YtjjklchfcklahaaDoor

/- A word that is wrong, among those of a path that was printed, is told by its place: in numbers alone. -/
namespace Go.Proofs.YtjjklchfcklahaaDoor
set_option linter.unusedVariables false
set_option linter.unusedSimpArgs false

def fl (l : List (List UInt8)) : List UInt8 := l.flatMap (fun w => 32 :: w)
def pw (ps : List Pnt) : List (List UInt8) := ps.flatMap (fun p => [pr p.1, pr p.2])
/-- The words of a path. -/
def Wl : List Int → List Pnt → List (List UInt8)
  | [], _ => []
  | v :: t, ps => [letterB v] :: (pw (ps.take (takesV v).toNat) ++ Wl t (ps.drop (takesV v).toNat))
theorem fl_cons (w : List UInt8) (l : List (List UInt8)) : fl (w :: l) = 32 :: (w ++ fl l) := rfl
theorem fl_append (a b : List (List UInt8)) : fl (a ++ b) = fl a ++ fl b := by unfold fl; rw [List.flatMap_append]
theorem fl_cut (l : List (List UInt8)) : Cut (fl l) := by
  cases l with
  | nil => exact .inl rfl
  | cons w l => exact .inr ⟨_, rfl⟩
theorem fl_pw (ps : List Pnt) : fl (pw ps) = ps.flatMap ptT := by
  induction ps with
  | nil => rfl
  | cons p t ih =>
    have e : pw (p :: t) = pr p.1 :: pr p.2 :: pw t := by unfold pw; rw [List.flatMap_cons]; rfl
    rw [e, fl_cons, fl_cons, ih, List.flatMap_cons]
    unfold ptT
    simp
theorem fl_Wl : ∀ (vs : List Int) (ps : List Pnt), fl (Wl vs ps) = prS vs ps
  | [], _ => rfl
  | v :: t, ps => by rw [Wl, fl_cons, fl_append, fl_pw, fl_Wl t, prS]; rfl
theorem pw_len (ps : List Pnt) : (pw ps).length = 2 * ps.length := by
  induction ps with
  | nil => rfl
  | cons p t ih =>
    have e : pw (p :: t) = pr p.1 :: pr p.2 :: pw t := by unfold pw; rw [List.flatMap_cons]; rfl
    rw [e, List.length_cons, List.length_cons, ih, List.length_cons]; omega
theorem Wl_len : ∀ (vs : List Int) (ps : List Pnt) (prev : Int), chk prev vs = 0 → needs vs = (ps.length : Int) → (Wl vs ps).length = vs.length + 2 * ps.length
  | [], ps, prev, _, hn => by unfold needs at hn; rw [Wl, List.length_nil]; simp; omega
  | v :: t, ps, prev, hc, hn => by
    obtain ⟨h1, _, h3⟩ := chk_cons hc
    have hnn := needs_nn t v h3
    unfold needs at hn
    have hk : (takesV v).toNat ≤ ps.length := by omega
    have ih := Wl_len t (ps.drop (takesV v).toNat) v h3 (by rw [List.length_drop]; omega)
    rw [Wl, List.length_cons, List.length_append, pw_len, ih, take_pts ps _ hk, List.length_drop, List.length_cons]
    omega
structure BadW (x : List UInt8) : Prop where
  wd : Wd x
  letter : letterV x = 0
  num : numV x = none
theorem bad_pts {x : List UInt8} (hx : BadW x) : ∀ (ps : List Pnt) (n : Nat) (l : List (List UInt8)), n < 2 * ps.length → (∀ p ∈ ps, FarP p) →
    ptsS ps.length (fl ((pw ps).take n) ++ 32 :: (x ++ fl ((pw ps).drop n ++ l))) = .error (x ++ fl ((pw ps).drop n ++ l)).length
  | [], n, l, hn, _ => absurd hn (by simp)
  | p :: t, n, l, hn, hp => by
    obtain ⟨h1, h2⟩ := hp p (by simp)
    have e : pw (p :: t) = pr p.1 :: pr p.2 :: pw t := by unfold pw; rw [List.flatMap_cons]; rfl
    rw [e, List.length_cons, ptsS]
    match n, hn with
    | 0, _ =>
      have w1 := word_cut hx.wd.2 (fl_cut (pr p.1 :: pr p.2 :: pw t ++ l))
      rw [List.take_zero, List.drop_zero, show fl [] = [] from rfl, List.nil_append, restB_blank, restB_word hx.wd, w1.1, hx.num]
    | 1, _ =>
      have w1 := word_cut (pr_wd p.1).2 (r := 32 :: (x ++ fl (pr p.2 :: pw t ++ l))) (.inr ⟨_, rfl⟩)
      have w2 := word_cut hx.wd.2 (fl_cut (pr p.2 :: pw t ++ l))
      have e1 : fl ((pr p.1 :: pr p.2 :: pw t).take 1) ++ 32 :: (x ++ fl ((pr p.1 :: pr p.2 :: pw t).drop 1 ++ l)) = 32 :: (pr p.1 ++ 32 :: (x ++ fl (pr p.2 :: pw t ++ l))) := by
        rw [List.take_succ_cons, List.take_zero, List.drop_succ_cons, List.drop_zero, fl_cons, show fl [] = [] from rfl, List.append_nil]; rfl
      rw [e1, restB_blank, restB_word (pr_wd p.1), w1.1, w1.2, num_back h1]
      dsimp only
      rw [restB_blank, restB_word hx.wd, w2.1, hx.num]
      rfl
    | n + 2, hn =>
      have ih := bad_pts hx t n l (by rw [List.length_cons] at hn; omega) (fun q hq => hp q (by simp [hq]))
      have hc2 : Cut (fl ((pw t).take n) ++ 32 :: (x ++ fl ((pw t).drop n ++ l))) := by
        rcases fl_cut ((pw t).take n) with h | ⟨u, h⟩
        · rw [h]; exact .inr ⟨_, rfl⟩
        · rw [h]; exact .inr ⟨_, rfl⟩
      have w1 := word_cut (pr_wd p.1).2 (r := 32 :: (pr p.2 ++ (fl ((pw t).take n) ++ 32 :: (x ++ fl ((pw t).drop n ++ l))))) (.inr ⟨_, rfl⟩)
      have w2 := word_cut (pr_wd p.2).2 hc2
      have e1 : fl ((pr p.1 :: pr p.2 :: pw t).take (n + 2)) ++ 32 :: (x ++ fl ((pr p.1 :: pr p.2 :: pw t).drop (n + 2) ++ l)) = 32 :: (pr p.1 ++ 32 :: (pr p.2 ++ (fl ((pw t).take n) ++ 32 :: (x ++ fl ((pw t).drop n ++ l))))) := by
        rw [List.take_succ_cons, List.take_succ_cons, List.drop_succ_cons, List.drop_succ_cons, fl_cons, fl_cons]
        simp
      rw [e1, restB_blank, restB_word (pr_wd p.1), w1.1, w1.2, num_back h1]
      dsimp only
      rw [restB_blank, restB_word (pr_wd p.2), w2.1, w2.2, num_back h2]
      dsimp only
      rw [ih]
      rfl
/-- A wrong word where a verb may stand. -/
theorem bad_verb {x : List UInt8} (hx : BadW x) (l : List (List UInt8)) (f : Nat) (now : Int) (hn : 0 ≤ now ∧ now ≤ 5) : parseS (f + 1) (32 :: (x ++ fl l)) now = .error (x ++ fl l).length := by
  have w1 := word_cut hx.wd.2 (fl_cut l)
  rw [parseS, restB_blank, restB_word hx.wd, w1.1, if_neg hx.wd.1, hx.letter]
  by_cases h0 : now = 0 ∨ now = 5
  · rw [if_pos ⟨rfl, h0⟩]
  · rw [if_neg (fun h => h0 h.2)]
    simp only [Int.lt_irrefl, if_false]
    obtain ⟨k, hk⟩ : ∃ k, (takesV (if now = 1 then 2 else now)).toNat = k + 1 := by
      have : now = 1 ∨ now = 2 ∨ now = 3 ∨ now = 4 := by omega
      rcases this with rfl | rfl | rfl | rfl
      · exact ⟨0, rfl⟩
      · exact ⟨0, rfl⟩
      · exact ⟨1, rfl⟩
      · exact ⟨2, rfl⟩
    rw [hk, ptsS, restB_word hx.wd, w1.1, hx.num]
theorem bad_parse {x : List UInt8} (hx : BadW x) : ∀ (vs : List Int) (ps : List Pnt) (prev now : Int) (f n : Nat), chk prev vs = 0 → needs vs = (ps.length : Int) → (∀ p ∈ ps, FarP p) → (0 ≤ now ∧ now ≤ 5) → n ≤ (Wl vs ps).length → vs.length < f →
    parseS f (fl ((Wl vs ps).take n) ++ 32 :: (x ++ fl ((Wl vs ps).drop n))) now = .error (x ++ fl ((Wl vs ps).drop n)).length
  | vs, ps, prev, now, 0, n, _, _, _, _, _, hf => absurd hf (Nat.not_lt_zero _)
  | vs, ps, prev, now, f + 1, 0, _, _, _, hw, _, _ => by
    rw [List.take_zero, List.drop_zero]
    exact bad_verb hx _ f now hw
  | [], ps, prev, now, f + 1, n + 1, _, _, _, _, hn, _ => by simp [Wl] at hn
  | v :: t, ps, prev, now, f + 1, n + 1, hc, hn, hp, hw, hl, hf => by
    obtain ⟨h1, _, h3⟩ := chk_cons hc
    have hnn := needs_nn t v h3
    unfold needs at hn
    have hk : (takesV v).toNat ≤ ps.length := by omega
    have hlen := take_pts ps _ hk
    obtain ⟨⟨hw1, hw2⟩, hlv⟩ := letter_wd h1
    have hv : 0 < v ∧ v ≤ 5 := by rcases takes_cases h1 with rfl | rfl | rfl | rfl | rfl <;> decide
    rw [Wl, List.take_succ_cons, List.drop_succ_cons, fl_cons]
    rw [Wl, List.length_cons, List.length_append, pw_len, hlen] at hl
    have key : ∀ Z : List UInt8, Cut Z → parseS (f + 1) (32 :: ([letterB v] ++ Z)) now = match ptsS (takesV v).toNat Z with
        | .error e => .error e
        | .ok (ps, r2) => match parseS f r2 v with
          | .error e => .error e
          | .ok (vs, qs) => .ok (v :: vs, ps ++ qs) := fun Z hZ => by
      have w1 := word_cut (w := [letterB v]) hw2 hZ
      rw [parseS, restB_blank, restB_word ⟨hw1, hw2⟩, w1.1, w1.2, hlv, if_neg hw1, if_neg (by omega), if_pos hv.1, if_pos hv.1]
      cases ptsS (takesV v).toNat Z with
      | error e => rfl
      | ok y =>
        obtain ⟨a, b⟩ := y
        dsimp only
        cases parseS f b v with
        | error e => rfl
        | ok z => rfl
    have cutZ : ∀ (a : List (List UInt8)) (r : List UInt8), Cut (fl a ++ 32 :: r) := fun a r => by
      rcases fl_cut a with h | ⟨u, h⟩
      · rw [h]; exact .inr ⟨_, rfl⟩
      · rw [h]; exact .inr ⟨_, rfl⟩
    rw [List.cons_append, List.append_assoc, key _ (cutZ _ _)]
    rcases Nat.lt_or_ge n (2 * (takesV v).toNat) with h | h
    · have hb := bad_pts hx (ps.take (takesV v).toNat) n (Wl t (ps.drop (takesV v).toNat)) (by rw [hlen]; exact h) (fun p hq => hp p (List.mem_of_mem_take hq))
      rw [hlen] at hb
      rw [List.take_append_of_le_length (by rw [pw_len, hlen]; omega), List.drop_append_of_le_length (by rw [pw_len, hlen]; omega), hb]
    · obtain ⟨m, rfl⟩ : ∃ m, n = 2 * (takesV v).toNat + m := ⟨n - 2 * (takesV v).toNat, by omega⟩
      have hpl : (pw (ps.take (takesV v).toNat)).length = 2 * (takesV v).toNat := by rw [pw_len, hlen]
      have e1 : (pw (ps.take (takesV v).toNat) ++ Wl t (ps.drop (takesV v).toNat)).take (2 * (takesV v).toNat + m) = pw (ps.take (takesV v).toNat) ++ (Wl t (ps.drop (takesV v).toNat)).take m := by
        rw [List.take_append, List.take_of_length_le (by rw [hpl]; omega), hpl, show 2 * (takesV v).toNat + m - 2 * (takesV v).toNat = m by omega]
      have e2 : (pw (ps.take (takesV v).toNat) ++ Wl t (ps.drop (takesV v).toNat)).drop (2 * (takesV v).toNat + m) = (Wl t (ps.drop (takesV v).toNat)).drop m := by
        rw [List.drop_append, List.drop_eq_nil_of_le (by rw [hpl]; omega), hpl, List.nil_append, show 2 * (takesV v).toNat + m - 2 * (takesV v).toNat = m by omega]
      rw [e1, e2, fl_append, fl_pw, List.append_assoc]
      have pb := pts_back (ps.take (takesV v).toNat) (fl ((Wl t (ps.drop (takesV v).toNat)).take m) ++ 32 :: (x ++ fl ((Wl t (ps.drop (takesV v).toNat)).drop m))) (fun p hq => hp p (List.mem_of_mem_take hq)) (cutZ _ _)
      rw [hlen] at pb
      rw [pb]
      dsimp only
      rw [bad_parse hx t (ps.drop (takesV v).toNat) v v f m h3 (by rw [List.length_drop]; omega) (fun p hq => hp p (List.mem_of_mem_drop hq)) (by omega) (by omega) (by rw [List.length_cons] at hf; omega)]
end Go.Proofs.YtjjklchfcklahaaDoor

/- Where a wrong word lies that was put among a path's words: in numbers alone. -/
namespace Go.Proofs.YtjjklchfcklahaaDoor
set_option linter.unusedVariables false
set_option linter.unusedSimpArgs false

theorem bad_x : BadW [120] := ⟨⟨by simp, by decide⟩, by decide, by decide⟩
theorem bad_dots : BadW [49, 46, 46] := ⟨⟨by simp, by decide⟩, by decide, by decide +kernel⟩
theorem bad_two : BadW [76, 76] := ⟨⟨by simp, by decide⟩, by decide, by decide⟩
theorem fl_take_drop (l : List (List UInt8)) (n : Nat) : (fl (l.take n)).length + (fl (l.drop n)).length = (fl l).length := by
  rw [← List.length_append, ← fl_append, List.take_append_drop]
/-- The text with a wrong word behind n words. -/
def badT (x : List UInt8) (vs : List Int) (ps : List Pnt) (n : Nat) : List UInt8 := (fl ((Wl vs ps).take n) ++ 32 :: (x ++ fl ((Wl vs ps).drop n))).tail
theorem bad_place {x : List UInt8} (hx : BadW x) {vs : List Int} {ps : List Pnt} (h : pathE vs ps = 0) {n : Nat} (hn : n ≤ (Wl vs ps).length) :
    parseR (badT x vs ps n) = (([], []), (fl ((Wl vs ps).take n)).length, 80) := by
  obtain ⟨_, h2, h3, _⟩ := check_ok.1 h
  have hlen := fl_take_drop (Wl vs ps) n
  rw [fl_Wl] at hlen
  have h2v := prS_len vs ps
  have hx1 : 1 ≤ x.length := by
    have := hx.wd.1
    cases x with
    | nil => exact absurd rfl this
    | cons c t => simp
  obtain ⟨T, hT⟩ : ∃ T, fl ((Wl vs ps).take n) ++ 32 :: (x ++ fl ((Wl vs ps).drop n)) = 32 :: T := by
    rcases fl_cut ((Wl vs ps).take n) with e | ⟨u, e⟩
    · rw [e]; exact ⟨_, rfl⟩
    · rw [e]; exact ⟨_, rfl⟩
  have hb : badT x vs ps n = T := by unfold badT; rw [hT]; rfl
  have htl : T.length + 1 = (fl ((Wl vs ps).take n)).length + 1 + (x.length + (fl ((Wl vs ps).drop n)).length) := by
    have := congrArg List.length hT
    simp only [List.length_append, List.length_cons] at this
    omega
  have hp := bad_parse hx vs ps 5 0 (T.length + 1) n h2 h3 (far_of_path h) (by omega) hn (by omega)
  rw [hT, parse_ahead] at hp
  unfold parseR
  rw [hb, hp]
  dsimp only
  rw [List.length_append]
  refine Prod.ext rfl (Prod.ext ?_ rfl)
  dsimp only
  omega
/-- What the printed text holds from the i-th word on. -/
theorem text_at (vs : List Int) (ps : List Pnt) (i : Nat) {w : List UInt8} (hw : (Wl vs ps)[i]? = some w) :
    (printT vs ps).drop (fl ((Wl vs ps).take i)).length = w ++ fl ((Wl vs ps).drop (i + 1)) := by
  have hi := (List.getElem?_eq_some_iff.1 hw).1
  have e : fl (Wl vs ps) = fl ((Wl vs ps).take i) ++ 32 :: (w ++ fl ((Wl vs ps).drop (i + 1))) := by
    conv => lhs; rw [← List.take_append_drop i (Wl vs ps)]
    rw [fl_append, List.drop_eq_getElem_cons hi, (List.getElem?_eq_some_iff.1 hw).2, fl_cons]
  unfold printT
  rw [← fl_Wl, e, ← List.drop_one, List.drop_drop, Nat.add_comm 1, List.drop_append]
  simp
end Go.Proofs.YtjjklchfcklahaaDoor

/- The place of a word, and the text with a wrong one put there. Own work. -/
namespace Go.Proofs.YtjjklchfcklahaaDoor
set_option linter.unusedVariables false
set_option linter.unusedSimpArgs false

/-- Where the i-th word begins. -/
def plc (vs : List Int) (ps : List Pnt) (i : Nat) : Nat := (fl ((Wl vs ps).take i)).length
theorem plc_step {vs : List Int} {ps : List Pnt} {i : Nat} {w : List UInt8} (hw : (Wl vs ps)[i]? = some w) : plc vs ps (i + 1) = plc vs ps i + 1 + w.length := by
  unfold plc
  rw [List.take_add_one, hw, fl_append, List.length_append, show (some w).toList = [w] from rfl, fl_cons, List.length_cons, List.length_append, show fl [] = [] from rfl, List.length_nil]
  omega
theorem pw_words (ps : List Pnt) : ∀ w ∈ pw ps, Wd w := by
  intro w hw
  unfold pw at hw
  obtain ⟨p, _, hp⟩ := List.mem_flatMap.1 hw
  rcases List.mem_cons.1 hp with rfl | hp
  · exact pr_wd _
  · rw [List.mem_singleton] at hp; rw [hp]; exact pr_wd _
theorem letterB_wd (v : Int) : Wd [letterB v] := by
  refine ⟨by simp, ?_⟩
  intro c hc
  rw [List.mem_singleton] at hc
  rw [hc]
  unfold letterB
  split
  · rfl
  · split
    · rfl
    · split
      · rfl
      · split <;> rfl
theorem Wl_words : ∀ (vs : List Int) (ps : List Pnt), ∀ w ∈ Wl vs ps, Wd w
  | [], _, w, hw => by cases hw
  | v :: t, ps, w, hw => by
    rw [Wl, List.mem_cons, List.mem_append] at hw
    rcases hw with rfl | hw | hw
    · exact letterB_wd v
    · exact pw_words _ _ hw
    · exact Wl_words t _ w hw
theorem text_of {vs : List Int} {ps : List Pnt} (h : Wl vs ps ≠ []) : 32 :: printT vs ps = fl (Wl vs ps) := by
  unfold printT
  rw [← fl_Wl]
  cases hW : Wl vs ps with
  | nil => exact absurd hW h
  | cons w l => rfl
/-- The byte at a place of the i-th word; behind it, a blank or the text's end. -/
theorem byte_in {vs : List Int} {ps : List Pnt} {i j : Nat} {w : List UInt8} (hw : (Wl vs ps)[i]? = some w) (hj : j < w.length) : ∃ c, (printT vs ps)[plc vs ps i + j]? = some c ∧ c ≠ 32 := by
  have h := text_at vs ps i hw
  refine ⟨w[j], ?_, ?_⟩
  · unfold plc
    rw [← List.getElem?_drop, h, List.getElem?_append_left hj, List.getElem?_eq_getElem hj]
  · intro e
    have := (Wl_words vs ps w (List.mem_of_getElem? hw)).2 _ (List.getElem_mem hj)
    rw [e] at this
    cases this
theorem byte_behind {vs : List Int} {ps : List Pnt} {i : Nat} {w : List UInt8} (hw : (Wl vs ps)[i]? = some w) : plc vs ps i + w.length = (printT vs ps).length ∨ (printT vs ps)[plc vs ps i + w.length]? = some 32 := by
  have h := text_at vs ps i hw
  rcases fl_cut ((Wl vs ps).drop (i + 1)) with e | ⟨u, e⟩
  · left
    have h2 := congrArg List.length h
    rw [List.length_drop, e, List.append_nil] at h2
    have hi := plc_step hw
    have hW : Wl vs ps ≠ [] := fun h0 => by rw [h0] at hw; simp at hw
    have h3 := congrArg List.length (text_of hW)
    rw [List.length_cons, ← fl_take_drop (Wl vs ps) (i + 1), e] at h3
    have h4 : (fl ((Wl vs ps).take (i + 1))).length = plc vs ps (i + 1) := rfl
    rw [h4, hi, List.length_nil] at h3
    omega
  · right
    unfold plc
    rw [← List.getElem?_drop, h, e, List.getElem?_append_right (Nat.le_refl _), Nat.sub_self]
    rfl
theorem plc_le {vs : List Int} {ps : List Pnt} (n : Nat) : plc vs ps n ≤ (printT vs ps).length + 1 := by
  have h := fl_take_drop (Wl vs ps) n
  unfold plc
  by_cases hW : Wl vs ps = []
  · rw [hW, List.take_nil]; simp [fl]
  · have h3 := congrArg List.length (text_of hW)
    rw [List.length_cons] at h3
    omega
theorem put_end {vs : List Int} {ps : List Pnt} {n : Nat} (h : (printT vs ps).length < plc vs ps n) (x : List UInt8) : printT vs ps ++ [32] ++ x = badT x vs ps n := by
  by_cases hW : Wl vs ps = []
  · unfold plc at h; rw [hW, List.take_nil] at h; simp [fl] at h
  · have h3 := text_of hW
    have h4 := fl_take_drop (Wl vs ps) n
    have h5 := congrArg List.length h3
    rw [List.length_cons] at h5
    unfold plc at h
    have h6 : fl ((Wl vs ps).drop n) = [] := List.eq_nil_of_length_eq_zero (by omega)
    have h7 : fl ((Wl vs ps).take n) = fl (Wl vs ps) := by
      conv => rhs; rw [← List.take_append_drop n (Wl vs ps), fl_append, h6, List.append_nil]
    unfold badT
    rw [h7, h6, ← h3]
    simp
theorem put_mid {vs : List Int} {ps : List Pnt} {n : Nat} (hW : Wl vs ps ≠ []) (h : plc vs ps n ≤ (printT vs ps).length) (x : List UInt8) : (printT vs ps).take (plc vs ps n) ++ x ++ [32] ++ (printT vs ps).drop (plc vs ps n) = badT x vs ps n := by
  have h3 := text_of hW
  have e : fl (Wl vs ps) = fl ((Wl vs ps).take n) ++ fl ((Wl vs ps).drop n) := by rw [← fl_append, List.take_append_drop]
  unfold plc at h ⊢
  unfold badT
  rcases fl_cut ((Wl vs ps).drop n) with e2 | ⟨u, e2⟩
  · have h5 := congrArg List.length h3
    rw [List.length_cons, e, e2, List.append_nil] at h5
    omega
  · rw [e2] at e
    have hF : fl ((Wl vs ps).take n) = [] ∨ ∃ F, fl ((Wl vs ps).take n) = 32 :: F := fl_cut _
    rw [e2]
    rcases hF with hF | ⟨F, hF⟩
    · rw [hF] at e ⊢
      rw [e, List.nil_append] at h3
      have : printT vs ps = u := List.cons.inj h3 |>.2
      rw [this]; simp
    · rw [hF] at e ⊢
      rw [e] at h3
      have : printT vs ps = F ++ 32 :: u := List.cons.inj h3 |>.2
      rw [this, List.length_cons]
      rw [show F ++ 32 :: u = (F ++ [32]) ++ u by simp, List.take_left' (by simp), List.drop_left' (by simp)]
      simp
theorem no_words {vs : List Int} {ps : List Pnt} (h : Wl vs ps = []) : printT vs ps = [] := by unfold printT; rw [← fl_Wl, h]; rfl
theorem lone_x : parseR [120, 32] = (([], []), 0, 80) := by decide +kernel
theorem lone_dots : parseR [49, 46, 46, 32] = (([], []), 0, 80) := by decide +kernel
theorem lone_two : parseR [76, 76, 32] = (([], []), 0, 80) := by decide +kernel
end Go.Proofs.YtjjklchfcklahaaDoor
