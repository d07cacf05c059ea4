/- Subpaths under way whose last one is still open: its segments are a row of their own, to which is appended. -/
import Derived.Test.YtalgmnnimfenpaaDoorSubs7
namespace Go.Proofs.YtalgmnnimfenpaaDoor
open Go.RowKit
set_option linter.unusedVariables false
set_option linter.unusedSimpArgs false
set_option maxHeartbeats 2000000

/-- The row vo holds the subpaths o, and behind them an open one from p on, with the segments sg in the row sv. -/
structure SpS (B : Nat) (o : List SubV) (p : Pnt) (sg : List SegV) (w : World) (vo : Value) (cs : List Value) (sv : Value) : Prop where
  row : w.ownsRow B 69 4 vo (o.length + 1) (cs ++ [.int .i64 p.1, .int .i64 p.2, sv, .bool false])
  len : cs.length = o.length * 4
  each : ∀ (k : Nat) (x : SubV), o[k]? = some x → ∃ a c, (cs.drop (k * 4)).take 4 = subC x a c ∧ Segs w w.heap.size a x.2.1 ∧ ∀ ad, a = some ad → B ≤ ad.block ∧ ad.block < w.heap.size ∧ vo.ownBlock ≠ some ad.block ∧ sv.ownBlock ≠ some ad.block
  seg : w.ownsRow B 54 9 sv sg.length (flatG sg)
  ne : ∀ g, sv.ownBlock = some g → vo.ownBlock ≠ some g
theorem each_grown {B : Nat} {o : List SubV} {w w' : World} {cs : List Value} {row : Option Nat} {P Q : Nat → Prop} (hg : w.grownBy w' row) (hrow : ∀ g, P g → some g ≠ row) (hPQ : ∀ g, g < w.heap.size → P g → Q g)
    (h : ∀ (k : Nat) (x : SubV), o[k]? = some x → ∃ a c, (cs.drop (k * 4)).take 4 = subC x a c ∧ Segs w w.heap.size a x.2.1 ∧ ∀ ad, a = some ad → B ≤ ad.block ∧ ad.block < w.heap.size ∧ P ad.block) :
    ∀ (k : Nat) (x : SubV), o[k]? = some x → ∃ a c, (cs.drop (k * 4)).take 4 = subC x a c ∧ Segs w' w'.heap.size a x.2.1 ∧ ∀ ad, a = some ad → B ≤ ad.block ∧ ad.block < w'.heap.size ∧ Q ad.block := fun k x hx => by
  obtain ⟨a, c, h1, h2, h3⟩ := h k x hx
  exact ⟨a, c, h1, h2.grown hg (fun ad e => hrow _ (h3 ad e).2.2), fun ad e => ⟨(h3 ad e).1, Nat.lt_of_lt_of_le (h3 ad e).2.1 hg.size, hPQ _ (h3 ad e).2.1 (h3 ad e).2.2⟩⟩
theorem SpS.out {B : Nat} {o : List SubV} {p : Pnt} {sg : List SegV} {w : World} {vo : Value} {cs : List Value} {sv : Value} (h : SpS B o p sg w vo cs sv) :
    OutC B (o ++ [(p, sg, false)]) w vo (cs ++ [.int .i64 p.1, .int .i64 p.2, sv, .bool false]) := by
  obtain ⟨A, c, hv, _, hs, hf⟩ := segs_of_row h.seg
  have hl := h.len
  refine ⟨by rw [List.length_append]; exact h.row, fun k y hy => ?_⟩
  by_cases hk : k < o.length
  · rw [List.getElem?_append_left hk] at hy
    obtain ⟨a, d, h1, h2, h3⟩ := h.each k y hy
    refine ⟨a, d, ?_, h2, fun ad e => ⟨(h3 ad e).1, (h3 ad e).2.1, (h3 ad e).2.2.1⟩⟩
    rw [List.drop_append_of_le_length (by omega), List.take_append_of_le_length (by rw [List.length_drop]; omega)]
    exact h1
  · have hk2 : k = o.length := by
      have := (List.getElem?_eq_some_iff.1 hy).1
      rw [List.length_append, List.length_cons, List.length_nil] at this
      omega
    subst hk2
    rw [List.getElem?_append_right (Nat.le_refl _), Nat.sub_self] at hy
    obtain rfl : (p, sg, false) = y := by simpa using hy
    refine ⟨A, c, by rw [← hl, List.drop_left, hv]; rfl, hs, fun ad e => ⟨(hf ad e).1, (hf ad e).2, ?_⟩⟩
    have := h.ne ad.block (by rw [hv, e]; rfl)
    exact this
/-- A new one is begun. -/
theorem OutC.begin_ {B : Nat} {o : List SubV} {w w' : World} {vo vo' : Value} {cs : List Value} (h : OutC B o w vo cs) (p : Pnt)
    (ap : Appd w w' B 69 4 vo vo' (o.length + 1) (cs ++ [.int .i64 p.1, .int .i64 p.2, .slice none 0 0, .bool false])) : SpS B o p [] w' vo' cs (.slice none 0 0) := by
  refine ⟨ap.row, h.len, ?_, World.ownsRow_nil _ _ _ _, fun g hg => by cases hg⟩
  intro k x hx
  obtain ⟨a, c, h1, h2, h3⟩ := h.each k x hx
  refine ⟨a, c, h1, h2.grown ap.grew (fun ad e k => (h3 ad e).2.2 k.symm), fun ad e => ⟨(h3 ad e).1, Nat.lt_of_lt_of_le (h3 ad e).2.1 ap.grew.size, ?_, by simp [Value.ownBlock]⟩⟩
  rcases ap.own with k | k
  · rw [k]; exact (h3 ad e).2.2
  · rw [k]; intro q; have := Option.some.inj q; have := (h3 ad e).2.1; omega
theorem set_third (cs : List Value) (a b c d u : Value) : (cs ++ [a, b, c, d]).set (cs.length + 2) u = cs ++ [a, b, u, d] := by
  rw [List.set_append_right _ _ (by omega), Nat.add_sub_cancel_left]; rfl
/-- A segment more. -/
theorem SpS.more {B : Nat} {o : List SubV} {p : Pnt} {sg : List SegV} {w w' : World} {gv cap : Nat} {cs : List Value} {sv sv' : Value} (h : SpS B o p sg w (.slice (some ⟨gv, 0, none⟩) (o.length + 1) cap) cs sv) (g : SegV)
    (ap : Appd w w' B 54 9 sv sv' (sg.length + 1) (flatG sg ++ segC g)) :
    SpS B o p (sg ++ [g]) (w'.setCell ⟨gv, o.length * 4 + 2, none⟩ sv') (.slice (some ⟨gv, 0, none⟩) (o.length + 1) cap) cs sv' := by
  have hgv : gv < w.heap.size := (h.row.lt gv rfl).2
  have hgB : B ≤ gv := (h.row.lt gv rfl).1
  have hsv : sv.ownBlock ≠ some gv := fun k => h.ne gv k rfl
  have hsv' : sv'.ownBlock ≠ some gv := by
    rcases ap.own with k | k
    · rw [k]; exact hsv
    · rw [k]; intro q; have := Option.some.inj q; omega
  have hr1 := h.row.kept ap.grew (.inr (fun k => hsv k.symm))
  have hst := hr1.stored (o.length * 4 + 2) sv'
  have hrow := hst.1
  rw [← h.len, set_third] at hrow
  have hgr := hst.2
  have e1 := each_grown (P := fun b => (Value.slice (some ⟨gv, 0, none⟩) (o.length + 1) cap).ownBlock ≠ some b ∧ sv.ownBlock ≠ some b) (Q := fun b => (Value.slice (some ⟨gv, 0, none⟩) (o.length + 1) cap).ownBlock ≠ some b ∧ sv'.ownBlock ≠ some b) ap.grew (fun g hg k => hg.2 k.symm) (fun g hlt hg => ⟨hg.1, by
    rcases ap.own with k | k
    · rw [k]; exact hg.2
    · rw [k]; intro q; have := Option.some.inj q; omega⟩) h.each
  have e2 := each_grown (P := fun b => (Value.slice (some ⟨gv, 0, none⟩) (o.length + 1) cap).ownBlock ≠ some b ∧ sv'.ownBlock ≠ some b) (Q := fun b => (Value.slice (some ⟨gv, 0, none⟩) (o.length + 1) cap).ownBlock ≠ some b ∧ sv'.ownBlock ≠ some b) hgr (fun g hg k => hg.1 k.symm) (fun g hlt hg => hg) e1
  rw [← h.len] at hgr ⊢
  refine ⟨by rw [h.len] at hrow ⊢; exact hrow, h.len, by rw [h.len]; exact e2, ?_, fun g hg k => ?_⟩
  · rw [List.length_append, List.length_cons, List.length_nil, flatG_snoc]
    refine ap.row.kept (row := some gv) hgr ?_
    cases hv : sv'.ownBlock with
    | none => exact .inl rfl
    | some q => exact .inr (by rw [← hv]; exact hsv')
  · have e : some gv = some g := k
    exact hsv' (hg.trans e.symm)
theorem set_four (cs : List Value) (a b c d a' b' c' d' : Value) : ((((cs ++ [a, b, c, d]).set cs.length a').set (cs.length + 1) b').set (cs.length + 2) c').set (cs.length + 3) d' = cs ++ [a', b', c', d'] := by
  rw [List.set_append_right _ _ (Nat.le_refl _), Nat.sub_self, List.set_append_right _ _ (by omega), Nat.add_sub_cancel_left, List.set_append_right _ _ (by omega), Nat.add_sub_cancel_left, List.set_append_right _ _ (by omega), Nat.add_sub_cancel_left]; rfl
/-- The last one is closed: all its cells are stored anew. -/
theorem SpS.close {B : Nat} {o : List SubV} {p : Pnt} {sg : List SegV} {w : World} {gv cap : Nat} {cs : List Value} {sv : Value} (h : SpS B o p sg w (.slice (some ⟨gv, 0, none⟩) (o.length + 1) cap) cs sv) (sg' : List SegV) (a : Option Addr) (c : Nat)
    (hs : Segs w w.heap.size a sg') (ha : ∀ ad, a = some ad → B ≤ ad.block ∧ ad.block < w.heap.size ∧ ad.block ≠ gv) :
    OutC B (o ++ [(p, sg', true)]) ((((w.setCell ⟨gv, o.length * 4, none⟩ (.int .i64 p.1)).setCell ⟨gv, o.length * 4 + 1, none⟩ (.int .i64 p.2)).setCell ⟨gv, o.length * 4 + 2, none⟩ (.slice a sg'.length c)).setCell ⟨gv, o.length * 4 + 3, none⟩ (.bool true)) (.slice (some ⟨gv, 0, none⟩) (o.length + 1) cap) (cs ++ subC (p, sg', true) a c) := by
  have s0 := h.row.stored (o.length * 4) (.int .i64 p.1)
  have s1 := s0.1.stored (o.length * 4 + 1) (.int .i64 p.2)
  have s2 := s1.1.stored (o.length * 4 + 2) (.slice a sg'.length c)
  have s3 := s2.1.stored (o.length * 4 + 3) (.bool true)
  have hg := ((s0.2.trans s1.2).trans s2.2).trans s3.2
  have hrow := s3.1
  rw [← h.len, set_four] at hrow
  have e1 := each_grown (P := fun b => (Value.slice (some ⟨gv, 0, none⟩) (o.length + 1) cap).ownBlock ≠ some b ∧ sv.ownBlock ≠ some b) (Q := fun b => (Value.slice (some ⟨gv, 0, none⟩) (o.length + 1) cap).ownBlock ≠ some b) hg (fun g hg k => hg.1 k.symm) (fun g hlt hg => hg.1) h.each
  have hs2 := hs.grown hg (fun ad e k => (ha ad e).2.2 (Option.some.inj k))
  have hl := h.len
  refine ⟨by rw [List.length_append]; rw [h.len] at hrow; exact hrow, fun k y hy => ?_⟩
  by_cases hk : k < o.length
  · rw [List.getElem?_append_left hk] at hy
    obtain ⟨b, d, h1, h2, h3⟩ := e1 k y hy
    refine ⟨b, d, ?_, h2, h3⟩
    rw [List.drop_append_of_le_length (by omega), List.take_append_of_le_length (by rw [List.length_drop]; omega)]
    exact h1
  · have hk2 : k = o.length := by
      have := (List.getElem?_eq_some_iff.1 hy).1
      rw [List.length_append, List.length_cons, List.length_nil] at this
      omega
    subst hk2
    rw [List.getElem?_append_right (Nat.le_refl _), Nat.sub_self] at hy
    obtain rfl : (p, sg', true) = y := by simpa using hy
    refine ⟨a, c, by rw [← hl, List.drop_left]; rfl, hs2, fun ad e => ⟨(ha ad e).1, Nat.lt_of_lt_of_le (ha ad e).2.1 hg.size, fun k => (ha ad e).2.2 ?_⟩⟩
    exact (Option.some.inj (show some gv = some ad.block from k)).symm
end Go.Proofs.YtalgmnnimfenpaaDoor
