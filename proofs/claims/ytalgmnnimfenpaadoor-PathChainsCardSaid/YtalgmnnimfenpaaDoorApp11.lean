/- Subpaths under way in a world that changes elsewhere. -/
import Derived.Test.YtalgmnnimfenpaaDoorApp10
namespace Go.Proofs.YtalgmnnimfenpaaDoor
open Go.RowKit
set_option linter.unusedVariables false
set_option linter.unusedSimpArgs false
set_option maxHeartbeats 2000000

theorem grown_of_below {w w' : World} (h : Below w.heap.size w w') (row : Option Nat) : w.grownBy w' row :=
  ⟨h.1, h.2, h.3, h.4, fun k hk _ => h.5 k hk⟩
theorem grown_set7 (w : World) (a : Addr) (u : Value) : w.grownBy (w.setCell a u) (some a.block) :=
  ⟨rfl, rfl, rfl, by simp [World.setCell], fun k _ hk => by
    unfold World.setCell
    simp only
    rw [Array.getElem?_modify]
    split
    · rename_i e; exact absurd (by rw [e]) hk
    · rfl⟩
/-- No value among these lies in block g. -/
def Clear (g : Nat) (cs : List Value) : Prop := ∀ u ∈ cs, u.ownBlock ≠ some g
theorem Clear.app {g : Nat} {a b : List Value} (h : Clear g a) (k : Clear g b) : Clear g (a ++ b) := fun u hu => by
  rcases List.mem_append.1 hu with e | e
  · exact h u e
  · exact k u e
theorem clear_four {g : Nat} (x y : Int) (sv : Value) (b : Bool) (h : sv.ownBlock ≠ some g) : Clear g [.int .i64 x, .int .i64 y, sv, .bool b] := fun u hu => by
  simp only [List.mem_cons, List.not_mem_nil, or_false] at hu
  rcases hu with rfl | rfl | rfl | rfl
  · intro e; cases e
  · intro e; cases e
  · exact h
  · intro e; cases e
theorem each_far {B : Nat} {o : List SubV} {w w' : World} {cs : List Value} {row : Option Nat} {P : Nat → Prop} (hg : w.grownBy w' row) (hc : ∀ u ∈ cs, ∀ k, u.ownBlock = some k → some k ≠ row)
    (h : ∀ (k : Nat) (x : SubV), o[k]? = some x → ∃ a c, (cs.drop (k * 4)).take 4 = subC x a c ∧ Segs w w.heap.size a x.2.1 ∧ ∀ ad, a = some ad → B ≤ ad.block ∧ ad.block < w.heap.size ∧ P ad.block) :
    ∀ (k : Nat) (x : SubV), o[k]? = some x → ∃ a c, (cs.drop (k * 4)).take 4 = subC x a c ∧ Segs w' w'.heap.size a x.2.1 ∧ ∀ ad, a = some ad → B ≤ ad.block ∧ ad.block < w'.heap.size ∧ P ad.block := fun k x hx => by
  obtain ⟨a, c, h1, h2, h3⟩ := h k x hx
  refine ⟨a, c, h1, h2.grown hg (fun ad e => ?_), fun ad e => ⟨(h3 ad e).1, Nat.lt_of_lt_of_le (h3 ad e).2.1 hg.size, (h3 ad e).2.2⟩⟩
  refine hc (.slice a x.2.1.length c) ?_ ad.block (by rw [e]; rfl)
  have hm : Value.slice a x.2.1.length c ∈ (cs.drop (k * 4)).take 4 := by rw [h1]; simp [subC]
  exact List.mem_of_mem_drop (List.mem_of_mem_take hm)
theorem OutC.far {B : Nat} {xs : List SubV} {w w' : World} {vo : Value} {cs : List Value} {row : Option Nat} (h : OutC B xs w vo cs) (hg : w.grownBy w' row) (h1 : vo.ownBlock = none ∨ vo.ownBlock ≠ row) (h2 : ∀ u ∈ cs, ∀ k, u.ownBlock = some k → some k ≠ row) : OutC B xs w' vo cs :=
  ⟨h.row.kept hg h1, each_far (P := fun b => vo.ownBlock ≠ some b) hg h2 h.each⟩
theorem SpS.far {B : Nat} {o : List SubV} {p : Pnt} {sg : List SegV} {w w' : World} {vo : Value} {cs : List Value} {sv : Value} {row : Option Nat} (h : SpS B o p sg w vo cs sv) (hg : w.grownBy w' row) (h1 : vo.ownBlock = none ∨ vo.ownBlock ≠ row) (h2 : ∀ u ∈ cs, ∀ k, u.ownBlock = some k → some k ≠ row) (h3 : sv.ownBlock = none ∨ sv.ownBlock ≠ row) : SpS B o p sg w' vo cs sv :=
  ⟨h.row.kept hg h1, h.len, each_far (P := fun b => vo.ownBlock ≠ some b ∧ sv.ownBlock ≠ some b) hg h2 h.each, h.seg.kept hg h3, h.ne⟩
theorem SpS.step {B : Nat} {o : List SubV} {p : Pnt} {sg : List SegV} {w w' : World} {vo : Value} {cs : List Value} {sv : Value} (h : SpS B o p sg w vo cs sv) (hb : Below w.heap.size w w') : SpS B o p sg w' vo cs sv :=
  h.far (row := none) (grown_of_below hb none) (by cases vo.ownBlock <;> simp) (fun u _ k e => by simp) (by cases sv.ownBlock <;> simp)
theorem OutC.put {B : Nat} {xs : List SubV} {w : World} {vo : Value} {cs : List Value} (h : OutC B xs w vo cs) {g : Nat} (h1 : vo.ownBlock ≠ some g) (h2 : Clear g cs) (j : Nat) (u : Value) : OutC B xs (w.setCell ⟨g, j, none⟩ u) vo cs :=
  h.far (grown_set7 w ⟨g, j, none⟩ u) (.inr h1) (fun v hv k e q => h2 v hv (e.trans q))
theorem SpS.put {B : Nat} {o : List SubV} {p : Pnt} {sg : List SegV} {w : World} {vo : Value} {cs : List Value} {sv : Value} (h : SpS B o p sg w vo cs sv) {g : Nat} (h1 : vo.ownBlock ≠ some g) (h2 : Clear g cs) (h3 : sv.ownBlock ≠ some g) (j : Nat) (u : Value) : SpS B o p sg (w.setCell ⟨g, j, none⟩ u) vo cs sv :=
  h.far (grown_set7 w ⟨g, j, none⟩ u) (.inr h1) (fun v hv k e q => h2 v hv (e.trans q)) (.inr h3)

/-- A box of one point, in block g; what lies below G is as it was in w0. -/
structure AtB (g : Nat) (G : Nat) (p : Pnt) (w0 x : World) : Prop where
  c0 : x.cell? ⟨g, 0, none⟩ = some (.int .i64 p.1)
  c1 : x.cell? ⟨g, 1, none⟩ = some (.int .i64 p.2)
  f0 : x.frozen? ⟨g, 0, none⟩ = false
  f1 : x.frozen? ⟨g, 1, none⟩ = false
  bel : Below G w0 x
  sz : g < x.heap.size
theorem AtB.grown {g G : Nat} {p : Pnt} {w0 x x' : World} {row : Option Nat} (h : AtB g G p w0 x) (hg : x.grownBy x' row) (hne : some g ≠ row) (hb : ∀ k, row = some k → G ≤ k) (hG : G ≤ x.heap.size) : AtB g G p w0 x' :=
  ⟨hg.cell h.c0 hne, hg.cell h.c1 hne, (World.frozen?_of_block (a := ⟨g, 0, none⟩) (hg.block g h.sz hne)).trans h.f0, (World.frozen?_of_block (a := ⟨g, 1, none⟩) (hg.block g h.sz hne)).trans h.f1, h.bel.grown hg hG hb, Nat.lt_of_lt_of_le h.sz hg.size⟩
theorem AtB.step {g G : Nat} {p : Pnt} {w0 x x' : World} (h : AtB g G p w0 x) (hb : Below x.heap.size x x') (hG : G ≤ x.heap.size) : AtB g G p w0 x' :=
  h.grown (row := none) (grown_of_below hb none) (by simp) (fun k e => by cases e) hG
theorem AtB.put {g G : Nat} {p : Pnt} {w0 x : World} (h : AtB g G p w0 x) (q : Pnt) (hG : G ≤ g) : AtB g G q w0 ((x.setCell ⟨g, 0, none⟩ (.int .i64 q.1)).setCell ⟨g, 1, none⟩ (.int .i64 q.2)) :=
  ⟨(World.cell?_setCell_other _ _ _ _ (by simp)).trans (World.cell?_setCell_same _ _ _ h.c0), World.cell?_setCell_same _ _ _ ((World.cell?_setCell_other _ _ _ _ (by simp)).trans h.c1),
   by rw [World.frozen?_setCell, World.frozen?_setCell]; exact h.f0, by rw [World.frozen?_setCell, World.frozen?_setCell]; exact h.f1, (h.bel.setCell hG _).setCell hG _, by simpa [World.setCell] using h.sz⟩
theorem AtB.far {g G : Nat} {p : Pnt} {w0 x : World} (h : AtB g G p w0 x) {b : Nat} (hne : g ≠ b) (hb : G ≤ b) (hG : G ≤ x.heap.size) (j : Nat) (u : Value) : AtB g G p w0 (x.setCell ⟨b, j, none⟩ u) :=
  h.grown (grown_set7 x ⟨b, j, none⟩ u) (fun k => hne (Option.some.inj k)) (fun k e => by have := Option.some.inj e; dsimp only at this; omega) hG
end Go.Proofs.YtalgmnnimfenpaaDoor
