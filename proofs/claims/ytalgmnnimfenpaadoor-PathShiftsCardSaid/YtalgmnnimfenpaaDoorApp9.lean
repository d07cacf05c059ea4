/- A row of subpaths under way: each one's segments lie in a row of their own. -/
import Derived.Test.YtalgmnnimfenpaaDoorApp8
import Derived.Test.YtalgmnnimfenpaaDoorSegs
namespace Go.Proofs.YtalgmnnimfenpaaDoor
open Go.RowKit
set_option linter.unusedVariables false
set_option linter.unusedSimpArgs false
set_option maxHeartbeats 2000000

theorem SegAt.grown {w w' : World} {a : Addr} {g : SegV} {row : Option Nat} (h : SegAt w a g) (hg : w.grownBy w' row) (hne : some a.block ≠ row) : SegAt w' a g := by
  obtain ⟨h0, h1, h2, h3, h4, h5, h6, h7, h8⟩ := h
  exact ⟨hg.cell h0 hne, hg.cell (a := nx a 1) h1 hne, hg.cell (a := nx a 2) h2 hne, hg.cell (a := nx a 3) h3 hne, hg.cell (a := nx a 4) h4 hne, hg.cell (a := nx a 5) h5 hne, hg.cell (a := nx a 6) h6 hne, hg.cell (a := nx a 7) h7 hne, hg.cell (a := nx a 8) h8 hne⟩
theorem Segs.grown {w w' : World} {A : Option Addr} {l : List SegV} {row : Option Nat} (h : Segs w w.heap.size A l) (hg : w.grownBy w' row) (hne : ∀ ad, A = some ad → some ad.block ≠ row) : Segs w' w'.heap.size A l := fun hn => by
  obtain ⟨ad, e, hB, hc⟩ := h hn
  exact ⟨ad, e, Nat.lt_of_lt_of_le hB hg.size, fun i g hi => (hc i g hi).grown hg (by rw [block_add]; exact hne ad e)⟩
/-- The four cells of a subpath. -/
def subC (x : SubV) (a : Option Addr) (c : Nat) : List Value := [.int .i64 x.1.1, .int .i64 x.1.2, .slice a x.2.1.length c, .bool x.2.2]
/-- The row vo holds these subpaths, in these cells; their segments lie in blocks from B on, none of them the row's own. -/
structure OutC (B : Nat) (xs : List SubV) (w : World) (vo : Value) (cs : List Value) : Prop where
  row : w.ownsRow B 69 4 vo xs.length cs
  each : ∀ (k : Nat) (x : SubV), xs[k]? = some x → ∃ a c, (cs.drop (k * 4)).take 4 = subC x a c ∧ Segs w w.heap.size a x.2.1 ∧ ∀ ad, a = some ad → B ≤ ad.block ∧ ad.block < w.heap.size ∧ vo.ownBlock ≠ some ad.block
theorem OutC.step {B : Nat} {xs : List SubV} {w w' : World} {vo : Value} {cs : List Value} (h : OutC B xs w vo cs) (hb : Below w.heap.size w w') : OutC B xs w' vo cs :=
  ⟨ownsRow_after h.row hb, fun k x hx => by
    obtain ⟨a, c, h1, h2, h3⟩ := h.each k x hx
    exact ⟨a, c, h1, h2.calls hb, fun ad e => ⟨(h3 ad e).1, Nat.lt_of_lt_of_le (h3 ad e).2.1 hb.size, (h3 ad e).2.2⟩⟩⟩
theorem OutC.len {B : Nat} {xs : List SubV} {w : World} {vo : Value} {cs : List Value} (h : OutC B xs w vo cs) : cs.length = xs.length * 4 := h.row.1
theorem OutC.push {B : Nat} {xs : List SubV} {w w' : World} {vo vo' : Value} {cs : List Value} (h : OutC B xs w vo cs) (x : SubV) (a : Option Addr) (c : Nat) (hs : Segs w w.heap.size a x.2.1) (ha : ∀ ad, a = some ad → B ≤ ad.block ∧ ad.block < w.heap.size ∧ vo.ownBlock ≠ some ad.block)
    (ap : Appd w w' B 69 4 vo vo' (xs.length + 1) (cs ++ subC x a c)) : OutC B (xs ++ [x]) w' vo' (cs ++ subC x a c) := by
  have hlen := h.len
  have keep : ∀ (b : Option Addr) (l : List SegV), Segs w w.heap.size b l → (∀ ad, b = some ad → B ≤ ad.block ∧ ad.block < w.heap.size ∧ vo.ownBlock ≠ some ad.block) → Segs w' w'.heap.size b l ∧ ∀ ad, b = some ad → B ≤ ad.block ∧ ad.block < w'.heap.size ∧ vo'.ownBlock ≠ some ad.block := by
    intro b l hl hb
    refine ⟨hl.grown ap.grew (fun ad e k => (hb ad e).2.2 k.symm), fun ad e => ⟨(hb ad e).1, Nat.lt_of_lt_of_le (hb ad e).2.1 ap.grew.size, ?_⟩⟩
    rcases ap.own with k | k
    · rw [k]; exact (hb ad e).2.2
    · rw [k]; intro q; have := Option.some.inj q; have := (hb ad e).2.1; omega
  refine ⟨by rw [List.length_append]; exact ap.row, fun k y hy => ?_⟩
  by_cases hk : k < xs.length
  · rw [List.getElem?_append_left hk] at hy
    obtain ⟨b, d, h1, h2, h3⟩ := h.each k y hy
    obtain ⟨h4, h5⟩ := keep b _ h2 h3
    refine ⟨b, d, ?_, h4, h5⟩
    rw [List.drop_append_of_le_length (by omega), List.take_append_of_le_length (by rw [List.length_drop]; omega)]
    exact h1
  · have hk2 : k = xs.length := by
      have := (List.getElem?_eq_some_iff.1 hy).1
      rw [List.length_append, List.length_cons, List.length_nil] at this
      omega
    subst hk2
    rw [List.getElem?_append_right (Nat.le_refl _), Nat.sub_self] at hy
    obtain rfl : x = y := by simpa using hy
    obtain ⟨h4, h5⟩ := keep a _ hs ha
    exact ⟨a, c, by rw [← hlen, List.drop_left]; rfl, h4, h5⟩
/-- What the row holds, as a slice of subpaths. -/
theorem OutC.subs {B : Nat} {xs : List SubV} {w : World} {vo : Value} {cs : List Value} (h : OutC B xs w vo cs) : ∃ A c, vo = .slice A xs.length c ∧ Subs w w.heap.size A xs := by
  obtain ⟨hl, ⟨hv, hn⟩ | ⟨g, cap, cur, hv, hB, hh, hcap, hmax, hsz, htk⟩⟩ := h.row
  · exact ⟨none, 0, by rw [hv, hn], fun h0 => by omega⟩
  · have hg : g < w.heap.size := by
      rcases Nat.lt_or_ge g w.heap.size with h1 | h1
      · exact h1
      · rw [Array.getElem?_eq_none h1] at hh; cases hh
    have hlen := h.len
    have ge : ∀ j u, cs[j]? = some u → w.cell? ⟨g, j, none⟩ = some u := fun j u hu => by
      rw [cell_of_row w g j cur _ (0, 0) hh]
      rw [← htk, List.getElem?_take] at hu
      split at hu
      · simpa using hu
      · cases hu
    refine ⟨some ⟨g, 0, none⟩, cap, hv, fun _ => ⟨⟨g, 0, none⟩, rfl, hg, fun i x hx => ?_⟩⟩
    obtain ⟨a, c, h1, h2, h3⟩ := h.each i x hx
    have hi := (List.getElem?_eq_some_iff.1 hx).1
    have hadd : (⟨g, 0, none⟩ : Addr).add (i * 4) = ⟨g, i * 4, none⟩ := by unfold Addr.add; split <;> simp_all
    rw [hadd]
    have at_ : ∀ j, j < 4 → cs[i * 4 + j]? = (subC x a c)[j]? := fun j hj => by
      rw [← h1, List.getElem?_take, if_pos hj, List.getElem?_drop]
    exact ⟨ge _ _ (at_ 0 (by omega)), ge _ _ (at_ 1 (by omega)), ⟨a, c, ge _ _ (at_ 2 (by omega)), h2⟩, ge _ _ (at_ 3 (by omega))⟩
end Go.Proofs.YtalgmnnimfenpaaDoor
