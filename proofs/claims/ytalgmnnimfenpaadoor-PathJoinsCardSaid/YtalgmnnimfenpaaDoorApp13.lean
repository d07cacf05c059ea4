/- Rows and blocks that are made anew, whatever else is made beside them. -/
import Derived.Test.YtalgmnnimfenpaaDoorApp11
namespace Go.Proofs.YtalgmnnimfenpaaDoor
open Go.RowKit
set_option linter.unusedVariables false
set_option linter.unusedSimpArgs false
set_option maxHeartbeats 2000000

theorem own_made' (w : World) (e : TypeId) (base size g : Nat) (hg : g = w.heap.size) (hb : base ≤ w.heap.size) : (w.alloc (.cells #[] e)).ownsRow base e size (.slice (some ⟨g, 0, none⟩) 0 0) 0 [] := by
  subst hg
  exact World.ownsRow_made (size := size) (e := e) (base := base) w #[] 0 hb (Nat.zero_le _) (by simp)
theorem own_made1 (w : World) (e : TypeId) (base g : Nat) (u : Value) (hg : g = w.heap.size) (hb : base ≤ w.heap.size) : (w.alloc (.cells #[u] e)).ownsRow base e 1 (.slice (some ⟨g, 0, none⟩) 1 1) 1 [u] := by
  subst hg
  exact ⟨by simp, .inr ⟨w.heap.size, 1, #[u], rfl, hb, heap_alloc_new w _, Nat.le_refl _, by decide, by simp, by simp⟩⟩
theorem blk_new (w : World) (o : Obj) (g : Nat) (hg : g = w.heap.size) : (w.alloc o).heap[g]? = some o := by subst hg; exact heap_alloc_new w o
theorem blk_alloc {w : World} {g : Nat} {o : Obj} (h : w.heap[g]? = some o) (o' : Obj) : (w.alloc o').heap[g]? = some o := by
  have hg : g < w.heap.size := by
    rcases Nat.lt_or_ge g w.heap.size with h1 | h1
    · exact h1
    · rw [Array.getElem?_eq_none h1] at h; cases h
  have := Below.heap_alloc w o' g hg
  exact this.trans h
theorem blk_cell {w : World} {g : Nat} {cs : Array Value} {t : TypeId} (h : w.heap[g]? = some (.cells cs t)) {j : Nat} {u : Value} (hu : cs[j]? = some u) : w.cell? ⟨g, j, none⟩ = some u ∧ w.frozen? ⟨g, j, none⟩ = false := by
  constructor
  · unfold World.cell?; simp [h, hu]
  · unfold World.frozen?; simp [h]
/-- A closed subpath in a box, its segments in a row of their own. -/
def CloseBox (b : Nat) (p : Pnt) (l : List SegV) (B gv : Nat) (w3 wx : World) : Prop :=
  ∃ (a : Option Addr) (c : Nat), (wx.cell? ⟨b, 0, none⟩ = some (.int .i64 p.1) ∧ wx.cell? ⟨b, 1, none⟩ = some (.int .i64 p.2) ∧ wx.cell? ⟨b, 2, none⟩ = some (.slice a l.length c) ∧ wx.cell? ⟨b, 3, none⟩ = some (.bool true)) ∧ Segs wx wx.heap.size a l ∧ (∀ ad, a = some ad → B ≤ ad.block ∧ ad.block < wx.heap.size ∧ ad.block ≠ gv ∧ ad.block ≠ B + 1) ∧ Below w3.heap.size w3 wx
theorem close_box {b B gv m cD : Nat} {px py : Int} {l : List SegV} {w3 w4 cur : World} {aD : Option Addr} {u : Value} {t e : TypeId} (hP : cur.heap[b]? = some (.cells #[.int .i64 px, .int .i64 py, u, .bool true] t))
    (hrow : cur.ownsRow w4.heap.size e 9 (.slice aD m cD) m (flatG l)) (hb : b < w4.heap.size) (hB : B ≤ w4.heap.size) (hg : gv < w4.heap.size) (hB1 : B + 1 < w4.heap.size) (hw : w3.heap.size ≤ b) (hK : Below w3.heap.size w3 cur) :
    CloseBox b (px, py) l B gv w3 (cur.setCell ⟨b, 2, none⟩ (.slice aD m cD)) := by
  obtain ⟨a, c, hv, hm, hs, hf⟩ := segs_of_row hrow
  simp only [Value.slice.injEq] at hv
  obtain ⟨rfl, _, rfl⟩ := hv
  have hz : (cur.setCell ⟨b, 2, none⟩ (.slice aD m cD)).heap.size = cur.heap.size := by simp [World.setCell]
  refine ⟨aD, cD, ⟨?_, ?_, ?_, ?_⟩, hs.grown (grown_set7 cur ⟨b, 2, none⟩ _) (fun ad k e => ?_), fun ad k => ⟨?_, ?_, ?_, ?_⟩, hK.setCell hw _⟩
  · exact (World.cell?_setCell_other _ _ _ _ (by simp)).trans (blk_cell hP (j := 0) rfl).1
  · exact (World.cell?_setCell_other _ _ _ _ (by simp)).trans (blk_cell hP (j := 1) rfl).1
  · rw [hm]; exact World.cell?_setCell_same _ _ _ (blk_cell hP (j := 2) rfl).1
  · exact (World.cell?_setCell_other _ _ _ _ (by simp)).trans (blk_cell hP (j := 3) rfl).1
  · have := (hf ad k).1; have := Option.some.inj e; dsimp only at this; omega
  · have := (hf ad k).1; omega
  · rw [hz]; exact (hf ad k).2
  · have := (hf ad k).1; omega
  · have := (hf ad k).1; omega
end Go.Proofs.YtalgmnnimfenpaaDoor
