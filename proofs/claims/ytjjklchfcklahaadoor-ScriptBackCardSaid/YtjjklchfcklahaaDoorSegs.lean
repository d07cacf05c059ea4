/- Segments and subpaths as they lie in memory; whether two segments are the same. -/
import Derived.Test.YtjjklchfcklahaaDoorRef7C
import Derived.ChangeKeysEq
namespace Go.Proofs.YtjjklchfcklahaaDoor
open Go.RowKit
set_option linter.unusedVariables false
set_option linter.unusedSimpArgs false
set_option maxHeartbeats 2000000
/-- The j-th cell behind the first one at a. -/
abbrev nx (a : Addr) (j : Nat) : Addr := ⟨a.block, a.off + j, none⟩
/-- The nine cells at a hold this segment. -/
def SegAt (w : World) (a : Addr) (g : SegV) : Prop :=
  w.cell? a = some (.int .i64 g.1.1.1) ∧ w.cell? (nx a 1) = some (.int .i64 g.1.1.2) ∧ w.cell? (nx a 2) = some (.int .i64 g.1.2.1.1) ∧ w.cell? (nx a 3) = some (.int .i64 g.1.2.1.2) ∧
  w.cell? (nx a 4) = some (.int .i64 g.1.2.2.1.1) ∧ w.cell? (nx a 5) = some (.int .i64 g.1.2.2.1.2) ∧ w.cell? (nx a 6) = some (.int .i64 g.1.2.2.2.1) ∧ w.cell? (nx a 7) = some (.int .i64 g.1.2.2.2.2) ∧ w.cell? (nx a 8) = some (.int .i64 g.2)
theorem SegAt.step {w w' : World} {B : Nat} {a : Addr} {g : SegV} (h : SegAt w a g) (hb : Below B w w') (ha : a.block < B) : SegAt w' a g := by
  obtain ⟨h0, h1, h2, h3, h4, h5, h6, h7, h8⟩ := h
  exact ⟨(hb.cell ha).trans h0, (hb.cell (p := nx a 1) ha).trans h1, (hb.cell (p := nx a 2) ha).trans h2, (hb.cell (p := nx a 3) ha).trans h3, (hb.cell (p := nx a 4) ha).trans h4, (hb.cell (p := nx a 5) ha).trans h5, (hb.cell (p := nx a 6) ha).trans h6, (hb.cell (p := nx a 7) ha).trans h7, (hb.cell (p := nx a 8) ha).trans h8⟩
/-- The slice at A holds these segments, all below block B. -/
def Segs (w : World) (B : Nat) (A : Option Addr) (l : List SegV) : Prop :=
  0 < l.length → ∃ ad, A = some ad ∧ ad.block < B ∧ ∀ (i : Nat) (g : SegV), l[i]? = some g → SegAt w (ad.add (i * 9)) g
theorem Segs.step {w w' : World} {B : Nat} {A : Option Addr} {l : List SegV} (h : Segs w B A l) (hb : Below B w w') : Segs w' B A l := fun hn => by
  obtain ⟨ad, e, hB, hc⟩ := h hn
  exact ⟨ad, e, hB, fun i g hg => (hc i g hg).step hb (by rw [block_add]; exact hB)⟩
theorem Segs.more {w : World} {B B' : Nat} {A : Option Addr} {l : List SegV} (h : Segs w B A l) (hB : B ≤ B') : Segs w B' A l := fun hn => by
  obtain ⟨ad, e, h1, hc⟩ := h hn
  exact ⟨ad, e, by omega, hc⟩
theorem Segs.at_ {w : World} {B : Nat} {A : Option Addr} {l : List SegV} (h : Segs w B A l) {i : Nat} {g : SegV} (hg : l[i]? = some g) : ∃ ad, A = some ad ∧ ad.block < B ∧ SegAt w (ad.add (i * 9)) g := by
  have hi := (List.getElem?_eq_some_iff.1 hg).1
  obtain ⟨ad, e, hB, hc⟩ := h (by omega)
  exact ⟨ad, e, hB, hc i g hg⟩
/-- The four cells at a hold this subpath; its segments lie below block B. -/
def SubAt (w : World) (B : Nat) (a : Addr) (x : SubV) : Prop :=
  w.cell? a = some (.int .i64 x.1.1) ∧ w.cell? (nx a 1) = some (.int .i64 x.1.2) ∧ (∃ (A : Option Addr) (c : Nat), w.cell? (nx a 2) = some (.slice A x.2.1.length c) ∧ Segs w B A x.2.1) ∧ w.cell? (nx a 3) = some (.bool x.2.2)
def Subs (w : World) (B : Nat) (A : Option Addr) (l : List SubV) : Prop :=
  0 < l.length → ∃ ad, A = some ad ∧ ad.block < B ∧ ∀ (i : Nat) (x : SubV), l[i]? = some x → SubAt w B (ad.add (i * 4)) x
theorem SubAt.step {w w' : World} {B : Nat} {a : Addr} {x : SubV} (h : SubAt w B a x) (hb : Below B w w') (ha : a.block < B) : SubAt w' B a x := by
  obtain ⟨h0, h1, ⟨A, c, h2, h4⟩, h3⟩ := h
  exact ⟨(hb.cell ha).trans h0, (hb.cell (p := nx a 1) ha).trans h1, ⟨A, c, (hb.cell (p := nx a 2) ha).trans h2, h4.step hb⟩, (hb.cell (p := nx a 3) ha).trans h3⟩
theorem Subs.step {w w' : World} {B : Nat} {A : Option Addr} {l : List SubV} (h : Subs w B A l) (hb : Below B w w') : Subs w' B A l := fun hn => by
  obtain ⟨ad, e, hB, hc⟩ := h hn
  exact ⟨ad, e, hB, fun i g hg => (hc i g hg).step hb (by rw [block_add]; exact hB)⟩
theorem Subs.more {w : World} {B B' : Nat} {A : Option Addr} {l : List SubV} (h : Subs w B A l) (hB : B ≤ B') : Subs w B' A l := fun hn => by
  obtain ⟨ad, e, h1, hc⟩ := h hn
  refine ⟨ad, e, by omega, fun i x hx => ?_⟩
  obtain ⟨h0, h1, ⟨A, c, h2, h4⟩, h3⟩ := hc i x hx
  exact ⟨h0, h1, ⟨A, c, h2, h4.more hB⟩, h3⟩
theorem Subs.at_ {w : World} {B : Nat} {A : Option Addr} {l : List SubV} (h : Subs w B A l) {i : Nat} {x : SubV} (hx : l[i]? = some x) : ∃ ad, A = some ad ∧ ad.block < B ∧ SubAt w B (ad.add (i * 4)) x := by
  have hi := (List.getElem?_eq_some_iff.1 hx).1
  obtain ⟨ad, e, hB, hc⟩ := h (by omega)
  exact ⟨ad, e, hB, hc i x hx⟩
theorem Segs.calls {w w' : World} {A : Option Addr} {l : List SegV} (h : Segs w w.heap.size A l) (hb : Below w.heap.size w w') : Segs w' w'.heap.size A l := (h.step hb).more hb.size
theorem Subs.calls {w w' : World} {A : Option Addr} {l : List SubV} (h : Subs w w.heap.size A l) (hb : Below w.heap.size w w') : Subs w' w'.heap.size A l := (h.step hb).more hb.size
end Go.Proofs.YtjjklchfcklahaaDoor
