/- Subpaths under way in the program's own types, the last one open, or closed already. -/
import Derived.Test.YtalgmnnimfenpaaDoorApp11
import Derived.Test.YtalgmnnimfenpaaDoorPthJ
namespace Go.Proofs.YtalgmnnimfenpaaDoor.Q7
open Go.RowKit
set_option linter.unusedVariables false
set_option linter.unusedSimpArgs false
set_option maxHeartbeats 2000000

/-- The row vo holds these subpaths, in these cells; their segments lie in blocks from B on, none of them the row's own. -/
structure OutC (B : Nat) (xs : List SubV) (w : World) (vo : Value) (cs : List Value) : Prop where
  row : w.ownsRow B 48 4 vo xs.length cs
  each : ∀ (k : Nat) (x : SubV), xs[k]? = some x → ∃ a c, (cs.drop (k * 4)).take 4 = subC x a c ∧ Segs w w.heap.size a x.2.1 ∧ ∀ ad, a = some ad → B ≤ ad.block ∧ ad.block < w.heap.size ∧ vo.ownBlock ≠ some ad.block
theorem OutC.step {B : Nat} {xs : List SubV} {w w' : World} {vo : Value} {cs : List Value} (h : OutC B xs w vo cs) (hb : Below w.heap.size w w') : OutC B xs w' vo cs :=
  ⟨ownsRow_after h.row hb, fun k x hx => by
    obtain ⟨a, c, h1, h2, h3⟩ := h.each k x hx
    exact ⟨a, c, h1, h2.calls hb, fun ad e => ⟨(h3 ad e).1, Nat.lt_of_lt_of_le (h3 ad e).2.1 hb.size, (h3 ad e).2.2⟩⟩⟩
theorem OutC.len {B : Nat} {xs : List SubV} {w : World} {vo : Value} {cs : List Value} (h : OutC B xs w vo cs) : cs.length = xs.length * 4 := h.row.1
theorem OutC.push {B : Nat} {xs : List SubV} {w w' : World} {vo vo' : Value} {cs : List Value} (h : OutC B xs w vo cs) (x : SubV) (a : Option Addr) (c : Nat) (hs : Segs w w.heap.size a x.2.1) (ha : ∀ ad, a = some ad → B ≤ ad.block ∧ ad.block < w.heap.size ∧ vo.ownBlock ≠ some ad.block)
    (ap : Appd w w' B 48 4 vo vo' (xs.length + 1) (cs ++ subC x a c)) : OutC B (xs ++ [x]) w' vo' (cs ++ subC x a c) := by
  have hlen := h.len
  have keep : ∀ (b : Option Addr) (l : List SegV), Segs w w.heap.size b l → (∀ ad, b = some ad → B ≤ ad.block ∧ ad.block < w.heap.size ∧ vo.ownBlock ≠ some ad.block) → Segs w' w'.heap.size b l ∧ ∀ ad, b = some ad → B ≤ ad.block ∧ ad.block < w'.heap.size ∧ vo'.ownBlock ≠ some ad.block := by
    intro b l hl hb
    refine ⟨hl.grown ap.grew (fun ad e k => (hb ad e).2.2 k.symm), fun ad e => ⟨(hb ad e).1, Nat.lt_of_lt_of_le (hb ad e).2.1 ap.grew.size, ?_⟩⟩
    rcases ap.own with k | k
    · rw [k]; exact (hb ad e).2.2
    · rw [k]; intro q; have := Option.some.inj q; have := (hb ad e).2.1; omega
  refine ⟨by rw [List.length_append]; exact ap.row, fun k y hy => ?_⟩
  by_cases hk : k < xs.length
  · rw [List.getElem?_append_left hk] at hy
    obtain ⟨b, d, h1, h2, h3⟩ := h.each k y hy
    obtain ⟨h4, h5⟩ := keep b _ h2 h3
    refine ⟨b, d, ?_, h4, h5⟩
    rw [List.drop_append_of_le_length (by omega), List.take_append_of_le_length (by rw [List.length_drop]; omega)]
    exact h1
  · have hk2 : k = xs.length := by
      have := (List.getElem?_eq_some_iff.1 hy).1
      rw [List.length_append, List.length_cons, List.length_nil] at this
      omega
    subst hk2
    rw [List.getElem?_append_right (Nat.le_refl _), Nat.sub_self] at hy
    obtain rfl : x = y := by simpa using hy
    obtain ⟨h4, h5⟩ := keep a _ hs ha
    exact ⟨a, c, by rw [← hlen, List.drop_left]; rfl, h4, h5⟩
/-- What the row holds, as a slice of subpaths. -/
theorem OutC.subs {B : Nat} {xs : List SubV} {w : World} {vo : Value} {cs : List Value} (h : OutC B xs w vo cs) : ∃ A c, vo = .slice A xs.length c ∧ Subs w w.heap.size A xs := by
  obtain ⟨hl, ⟨hv, hn⟩ | ⟨g, cap, cur, hv, hB, hh, hcap, hmax, hsz, htk⟩⟩ := h.row
  · exact ⟨none, 0, by rw [hv, hn], fun h0 => by omega⟩
  · have hg : g < w.heap.size := by
      rcases Nat.lt_or_ge g w.heap.size with h1 | h1
      · exact h1
      · rw [Array.getElem?_eq_none h1] at hh; cases hh
    have hlen := h.len
    have ge : ∀ j u, cs[j]? = some u → w.cell? ⟨g, j, none⟩ = some u := fun j u hu => by
      rw [cell_of_row w g j cur _ (0, 0) hh]
      rw [← htk, List.getElem?_take] at hu
      split at hu
      · simpa using hu
      · cases hu
    refine ⟨some ⟨g, 0, none⟩, cap, hv, fun _ => ⟨⟨g, 0, none⟩, rfl, hg, fun i x hx => ?_⟩⟩
    obtain ⟨a, c, h1, h2, h3⟩ := h.each i x hx
    have hi := (List.getElem?_eq_some_iff.1 hx).1
    have hadd : (⟨g, 0, none⟩ : Addr).add (i * 4) = ⟨g, i * 4, none⟩ := by unfold Addr.add; split <;> simp_all
    rw [hadd]
    have at_ : ∀ j, j < 4 → cs[i * 4 + j]? = (subC x a c)[j]? := fun j hj => by
      rw [← h1, List.getElem?_take, if_pos hj, List.getElem?_drop]
    exact ⟨ge _ _ (at_ 0 (by omega)), ge _ _ (at_ 1 (by omega)), ⟨a, c, ge _ _ (at_ 2 (by omega)), h2⟩, ge _ _ (at_ 3 (by omega))⟩
/-- The row vo holds the subpaths o, and behind them an open one from p on, with the segments sg in the row sv. -/
structure SpS (B : Nat) (o : List SubV) (p : Pnt) (sg : List SegV) (b : Bool) (w : World) (vo : Value) (cs : List Value) (sv : Value) : Prop where
  row : w.ownsRow B 48 4 vo (o.length + 1) (cs ++ [.int .i64 p.1, .int .i64 p.2, sv, .bool b])
  len : cs.length = o.length * 4
  each : ∀ (k : Nat) (x : SubV), o[k]? = some x → ∃ a c, (cs.drop (k * 4)).take 4 = subC x a c ∧ Segs w w.heap.size a x.2.1 ∧ ∀ ad, a = some ad → B ≤ ad.block ∧ ad.block < w.heap.size ∧ vo.ownBlock ≠ some ad.block ∧ sv.ownBlock ≠ some ad.block
  seg : w.ownsRow B 51 9 sv sg.length (flatG sg)
  ne : ∀ g, sv.ownBlock = some g → vo.ownBlock ≠ some g
theorem SpS.out {B : Nat} {o : List SubV} {p : Pnt} {sg : List SegV} {b : Bool} {w : World} {vo : Value} {cs : List Value} {sv : Value} (h : SpS B o p sg b w vo cs sv) :
    OutC B (o ++ [(p, sg, b)]) w vo (cs ++ [.int .i64 p.1, .int .i64 p.2, sv, .bool b]) := by
  obtain ⟨A, c, hv, _, hs, hf⟩ := segs_of_row h.seg
  have hl := h.len
  refine ⟨by rw [List.length_append]; exact h.row, fun k y hy => ?_⟩
  by_cases hk : k < o.length
  · rw [List.getElem?_append_left hk] at hy
    obtain ⟨a, d, h1, h2, h3⟩ := h.each k y hy
    refine ⟨a, d, ?_, h2, fun ad e => ⟨(h3 ad e).1, (h3 ad e).2.1, (h3 ad e).2.2.1⟩⟩
    rw [List.drop_append_of_le_length (by omega), List.take_append_of_le_length (by rw [List.length_drop]; omega)]
    exact h1
  · have hk2 : k = o.length := by
      have := (List.getElem?_eq_some_iff.1 hy).1
      rw [List.length_append, List.length_cons, List.length_nil] at this
      omega
    subst hk2
    rw [List.getElem?_append_right (Nat.le_refl _), Nat.sub_self] at hy
    obtain rfl : (p, sg, b) = y := by simpa using hy
    refine ⟨A, c, by rw [← hl, List.drop_left, hv]; rfl, hs, fun ad e => ⟨(hf ad e).1, (hf ad e).2, ?_⟩⟩
    have := h.ne ad.block (by rw [hv, e]; rfl)
    exact this
/-- A new one is begun. -/
theorem OutC.begin_ {B : Nat} {o : List SubV} {w w' : World} {vo vo' : Value} {cs : List Value} (h : OutC B o w vo cs) (p : Pnt)
    (ap : Appd w w' B 48 4 vo vo' (o.length + 1) (cs ++ [.int .i64 p.1, .int .i64 p.2, .slice none 0 0, .bool false])) : SpS B o p [] false w' vo' cs (.slice none 0 0) := by
  refine ⟨ap.row, h.len, ?_, World.ownsRow_nil _ _ _ _, fun g hg => by cases hg⟩
  intro k x hx
  obtain ⟨a, c, h1, h2, h3⟩ := h.each k x hx
  refine ⟨a, c, h1, h2.grown ap.grew (fun ad e k => (h3 ad e).2.2 k.symm), fun ad e => ⟨(h3 ad e).1, Nat.lt_of_lt_of_le (h3 ad e).2.1 ap.grew.size, ?_, by simp [Value.ownBlock]⟩⟩
  rcases ap.own with k | k
  · rw [k]; exact (h3 ad e).2.2
  · rw [k]; intro q; have := Option.some.inj q; have := (h3 ad e).2.1; omega
/-- A segment more. -/
theorem SpS.more {B : Nat} {o : List SubV} {p : Pnt} {sg : List SegV} {b : Bool} {w w' : World} {gv cap : Nat} {cs : List Value} {sv sv' : Value} (h : SpS B o p sg b w (.slice (some ⟨gv, 0, none⟩) (o.length + 1) cap) cs sv) (g : SegV)
    (ap : Appd w w' B 51 9 sv sv' (sg.length + 1) (flatG sg ++ segC g)) :
    SpS B o p (sg ++ [g]) b (w'.setCell ⟨gv, o.length * 4 + 2, none⟩ sv') (.slice (some ⟨gv, 0, none⟩) (o.length + 1) cap) cs sv' := by
  have hgv : gv < w.heap.size := (h.row.lt gv rfl).2
  have hgB : B ≤ gv := (h.row.lt gv rfl).1
  have hsv : sv.ownBlock ≠ some gv := fun k => h.ne gv k rfl
  have hsv' : sv'.ownBlock ≠ some gv := by
    rcases ap.own with k | k
    · rw [k]; exact hsv
    · rw [k]; intro q; have := Option.some.inj q; omega
  have hr1 := h.row.kept ap.grew (.inr (fun k => hsv k.symm))
  have hst := hr1.stored (o.length * 4 + 2) sv'
  have hrow := hst.1
  rw [← h.len, set_third] at hrow
  have hgr := hst.2
  have e1 := each_grown (P := fun b => (Value.slice (some ⟨gv, 0, none⟩) (o.length + 1) cap).ownBlock ≠ some b ∧ sv.ownBlock ≠ some b) (Q := fun b => (Value.slice (some ⟨gv, 0, none⟩) (o.length + 1) cap).ownBlock ≠ some b ∧ sv'.ownBlock ≠ some b) ap.grew (fun g hg k => hg.2 k.symm) (fun g hlt hg => ⟨hg.1, by
    rcases ap.own with k | k
    · rw [k]; exact hg.2
    · rw [k]; intro q; have := Option.some.inj q; omega⟩) h.each
  have e2 := each_grown (P := fun b => (Value.slice (some ⟨gv, 0, none⟩) (o.length + 1) cap).ownBlock ≠ some b ∧ sv'.ownBlock ≠ some b) (Q := fun b => (Value.slice (some ⟨gv, 0, none⟩) (o.length + 1) cap).ownBlock ≠ some b ∧ sv'.ownBlock ≠ some b) hgr (fun g hg k => hg.1 k.symm) (fun g hlt hg => hg) e1
  rw [← h.len] at hgr ⊢
  refine ⟨by rw [h.len] at hrow ⊢; exact hrow, h.len, by rw [h.len]; exact e2, ?_, fun g hg k => ?_⟩
  · rw [List.length_append, List.length_cons, List.length_nil, flatG_snoc]
    refine ap.row.kept (row := some gv) hgr ?_
    cases hv : sv'.ownBlock with
    | none => exact .inl rfl
    | some q => exact .inr (by rw [← hv]; exact hsv')
  · have e : some gv = some g := k
    exact hsv' (hg.trans e.symm)
theorem OutC.far {B : Nat} {xs : List SubV} {w w' : World} {vo : Value} {cs : List Value} {row : Option Nat} (h : OutC B xs w vo cs) (hg : w.grownBy w' row) (h1 : vo.ownBlock = none ∨ vo.ownBlock ≠ row) (h2 : ∀ u ∈ cs, ∀ k, u.ownBlock = some k → some k ≠ row) : OutC B xs w' vo cs :=
  ⟨h.row.kept hg h1, each_far (P := fun b => vo.ownBlock ≠ some b) hg h2 h.each⟩
theorem SpS.far {B : Nat} {o : List SubV} {p : Pnt} {sg : List SegV} {b : Bool} {w w' : World} {vo : Value} {cs : List Value} {sv : Value} {row : Option Nat} (h : SpS B o p sg b w vo cs sv) (hg : w.grownBy w' row) (h1 : vo.ownBlock = none ∨ vo.ownBlock ≠ row) (h2 : ∀ u ∈ cs, ∀ k, u.ownBlock = some k → some k ≠ row) (h3 : sv.ownBlock = none ∨ sv.ownBlock ≠ row) : SpS B o p sg b w' vo cs sv :=
  ⟨h.row.kept hg h1, h.len, each_far (P := fun b => vo.ownBlock ≠ some b ∧ sv.ownBlock ≠ some b) hg h2 h.each, h.seg.kept hg h3, h.ne⟩
theorem SpS.step {B : Nat} {o : List SubV} {p : Pnt} {sg : List SegV} {b : Bool} {w w' : World} {vo : Value} {cs : List Value} {sv : Value} (h : SpS B o p sg b w vo cs sv) (hb : Below w.heap.size w w') : SpS B o p sg b w' vo cs sv :=
  h.far (row := none) (grown_of_below hb none) (by cases vo.ownBlock <;> simp) (fun u _ k e => by simp) (by cases sv.ownBlock <;> simp)
/-- A store into block G, below all rows. -/
theorem OutC.setG {G : Nat} {xs : List SubV} {w : World} {vo : Value} {cs : List Value} (h : OutC (G + 1) xs w vo cs) (j : Nat) (u : Value) : OutC (G + 1) xs (w.setCell ⟨G, j, none⟩ u) vo cs :=
  ⟨ownsRow_set h.row j u, fun k x hx => by
    obtain ⟨a, c, h1, h2, h3⟩ := h.each k x hx
    exact ⟨a, c, h1, h2.grown (grown_set7 w ⟨G, j, none⟩ u) (fun ad e q => by have := (h3 ad e).1; have := Option.some.inj q; dsimp only at this; omega), fun ad e => ⟨(h3 ad e).1, by have := (h3 ad e).2.1; simpa [World.setCell] using this, (h3 ad e).2.2⟩⟩⟩
theorem SpS.setG {G : Nat} {o : List SubV} {p : Pnt} {sg : List SegV} {b : Bool} {w : World} {vo : Value} {cs : List Value} {sv : Value} (h : SpS (G + 1) o p sg b w vo cs sv) (j : Nat) (u : Value) : SpS (G + 1) o p sg b (w.setCell ⟨G, j, none⟩ u) vo cs sv :=
  ⟨ownsRow_set h.row j u, h.len, fun k x hx => by
    obtain ⟨a, c, h1, h2, h3⟩ := h.each k x hx
    exact ⟨a, c, h1, h2.grown (grown_set7 w ⟨G, j, none⟩ u) (fun ad e q => by have := (h3 ad e).1; have := Option.some.inj q; dsimp only at this; omega), fun ad e => ⟨(h3 ad e).1, by have := (h3 ad e).2.1; simpa [World.setCell] using this, (h3 ad e).2.2⟩⟩, ownsRow_set h.seg j u, h.ne⟩
theorem set_fourth (cs : List Value) (a b c d u : Value) : (cs ++ [a, b, c, d]).set (cs.length + 3) u = cs ++ [a, b, c, u] := by
  rw [List.set_append_right _ _ (by omega), Nat.add_sub_cancel_left]; rfl
/-- The open one is closed. -/
theorem SpS.shut {B : Nat} {o : List SubV} {p : Pnt} {sg : List SegV} {b : Bool} {w : World} {gv cap : Nat} {cs : List Value} {sv : Value} (h : SpS B o p sg b w (.slice (some ⟨gv, 0, none⟩) (o.length + 1) cap) cs sv) :
    SpS B o p sg true (w.setCell ⟨gv, o.length * 4 + 3, none⟩ (.bool true)) (.slice (some ⟨gv, 0, none⟩) (o.length + 1) cap) cs sv := by
  have hsv : sv.ownBlock ≠ some gv := fun k => h.ne gv k rfl
  have hst := h.row.stored (o.length * 4 + 3) (.bool true)
  have hrow := hst.1
  rw [← h.len, set_fourth] at hrow
  have hgr := hst.2
  have e1 := each_grown (P := fun b => (Value.slice (some ⟨gv, 0, none⟩) (o.length + 1) cap).ownBlock ≠ some b ∧ sv.ownBlock ≠ some b) (Q := fun b => (Value.slice (some ⟨gv, 0, none⟩) (o.length + 1) cap).ownBlock ≠ some b ∧ sv.ownBlock ≠ some b) hgr (fun g hg k => hg.1 k.symm) (fun g hlt hg => hg) h.each
  refine ⟨by rw [h.len] at hrow; exact hrow, h.len, e1, h.seg.kept (row := some gv) hgr ?_, h.ne⟩
  cases hv : sv.ownBlock with
  | none => exact .inl rfl
  | some q => exact .inr (by rw [← hv]; exact hsv)
/-- The four cells of the open one. -/
theorem SpS.cells {B : Nat} {o : List SubV} {p : Pnt} {sg : List SegV} {b : Bool} {w : World} {gv cap : Nat} {cs : List Value} {sv : Value} (h : SpS B o p sg b w (.slice (some ⟨gv, 0, none⟩) (o.length + 1) cap) cs sv) :
    w.cell? ⟨gv, o.length * 4, none⟩ = some (.int .i64 p.1) ∧ w.cell? ⟨gv, o.length * 4 + 1, none⟩ = some (.int .i64 p.2) ∧ w.cell? ⟨gv, o.length * 4 + 2, none⟩ = some sv ∧ w.cell? ⟨gv, o.length * 4 + 3, none⟩ = some (.bool b) ∧ (∀ j, w.frozen? ⟨gv, j, none⟩ = false) ∧ B ≤ gv ∧ gv < w.heap.size := by
  have hc := fun j u hu => h.row.cells (g := gv) rfl j u hu
  have hl := h.len
  have ha : ∀ j, (⟨gv, 0, none⟩ : Addr).add j = ⟨gv, j, none⟩ := fun j => by unfold Addr.add; split <;> simp_all
  have at_ : ∀ j u, ([.int .i64 p.1, .int .i64 p.2, sv, .bool b] : List Value)[j]? = some u → w.cell? ⟨gv, o.length * 4 + j, none⟩ = some u := fun j u hu => by
    have := hc (o.length * 4 + j) u (by rw [List.getElem?_append_right (by omega), hl, Nat.add_sub_cancel_left]; exact hu)
    rw [ha] at this
    exact this
  obtain ⟨_, ⟨hv, _⟩ | ⟨g2, cap2, cur, hv, hB, hh, _⟩⟩ := h.row
  · cases hv
  · cases hv
    exact ⟨at_ 0 _ rfl, at_ 1 _ rfl, at_ 2 _ rfl, at_ 3 _ rfl, fun j => by simp [World.frozen?, hh], hB, (h.row.lt gv rfl).2⟩
theorem SpS.form {B : Nat} {o : List SubV} {p : Pnt} {sg : List SegV} {b : Bool} {w : World} {vo : Value} {cs : List Value} {sv : Value} (h : SpS B o p sg b w vo cs sv) : ∃ gv cap, vo = .slice (some ⟨gv, 0, none⟩) (o.length + 1) cap := by
  obtain ⟨g, q, e, -, -⟩ := h.row.form (Nat.succ_pos _)
  exact ⟨g, q, e⟩
end Go.Proofs.YtalgmnnimfenpaaDoor.Q7
