/- Segments and subpaths as they lie in memory; whether two segments are the same. -/
import Derived.Test.YtalgmnnimfenpaaDoorRef7C
import Derived.ChangeKeysEq
namespace Go.Proofs.YtalgmnnimfenpaaDoor
open Go.RowKit
set_option linter.unusedVariables false
set_option linter.unusedSimpArgs false
set_option maxHeartbeats 2000000
theorem eqin_pt (d : Nat) (x y u v : Int) (w : World) : Sem.run Tryd.prog (Op.equalIn (d + 2) 44 (P2 x y) (P2 u v)) w = Result.ok (x == u && y == v) w := by
  cases hx : (x == u) <;> cases hy : (y == v) <;> simp [go_sem, hx, hy]
theorem und_p4 : Tryd.prog.underlying 49 = some (.array 4 44) := by kernel_rfl
theorem info_p : (Tryd.prog.info? 44).isSome = true := by kernel_rfl
theorem cells_p : Tryd.prog.cellsOf 44 = 2 := by kernel_rfl
theorem eqin_p4 (d : Nat) (a b c e f g h k a' b' c' e' f' g' h' k' : Int) (w : World) : Sem.run Tryd.prog (Op.equalIn (d + 3) 49 (.agg #[.int .i64 a, .int .i64 b, .int .i64 c, .int .i64 e, .int .i64 f, .int .i64 g, .int .i64 h, .int .i64 k]) (.agg #[.int .i64 a', .int .i64 b', .int .i64 c', .int .i64 e', .int .i64 f', .int .i64 g', .int .i64 h', .int .i64 k'])) w = Result.ok ((a == a' && b == b') && ((c == c' && e == e') && ((f == f' && g == g') && (h == h' && k == k')))) w := by
  obtain ⟨i, hi⟩ := Option.isSome_iff_exists.1 info_p
  refine (run_equalIn_array w (d + 2) _ _ und_p4 hi).trans ?_
  rw [cells_p]
  have E0 := fun w => eqin_pt d a b a' b' w
  have E1 := fun w => eqin_pt d c e c' e' w
  have E2 := fun w => eqin_pt d f g f' g' w
  have E3 := fun w => eqin_pt d h k h' k' w
  generalize (a == a' && b == b') = b0 at *
  generalize (c == c' && e == e') = b1 at *
  generalize (f == f' && g == g') = b2 at *
  generalize (h == h' && k == k') = b3 at *
  cases b0 <;> cases b1 <;> cases b2 <;> cases b3 <;> simp [List.range, List.range.loop, Op.eqItems, part, isAgg, go_sem, E0, E1, E2, E3]
theorem ne_seg (a b c e f g h k n a' b' c' e' f' g' h' k' n' : Int) (w : World) :
    (binOp .neq 54 (G9 a b c e f g h k n) (G9 a' b' c' e' f' g' h' k' n')).run Tryd.prog w = .ok (.bool (!(((a == a' && b == b') && ((c == c' && e == e') && ((f == f' && g == g') && (h == h' && k == k')))) && n == n'))) w := by
  have E := fun w => eqin_p4 9996 a b c e f g h k a' b' c' e' f' g' h' k' w
  generalize ((a == a' && b == b') && ((c == c' && e == e') && ((f == f' && g == g') && (h == h' && k == k')))) = b0 at *
  cases b0 <;> cases hn : (n == n') <;> simp [go_sem, E, hn]
/-- The j-th cell behind the first one at a. -/
abbrev nx (a : Addr) (j : Nat) : Addr := ⟨a.block, a.off + j, none⟩
/-- The nine cells at a hold this segment. -/
def SegAt (w : World) (a : Addr) (g : SegV) : Prop :=
  w.cell? a = some (.int .i64 g.1.1.1) ∧ w.cell? (nx a 1) = some (.int .i64 g.1.1.2) ∧ w.cell? (nx a 2) = some (.int .i64 g.1.2.1.1) ∧ w.cell? (nx a 3) = some (.int .i64 g.1.2.1.2) ∧
  w.cell? (nx a 4) = some (.int .i64 g.1.2.2.1.1) ∧ w.cell? (nx a 5) = some (.int .i64 g.1.2.2.1.2) ∧ w.cell? (nx a 6) = some (.int .i64 g.1.2.2.2.1) ∧ w.cell? (nx a 7) = some (.int .i64 g.1.2.2.2.2) ∧ w.cell? (nx a 8) = some (.int .i64 g.2)
theorem SegAt.step {w w' : World} {B : Nat} {a : Addr} {g : SegV} (h : SegAt w a g) (hb : Below B w w') (ha : a.block < B) : SegAt w' a g := by
  obtain ⟨h0, h1, h2, h3, h4, h5, h6, h7, h8⟩ := h
  exact ⟨(hb.cell ha).trans h0, (hb.cell (p := nx a 1) ha).trans h1, (hb.cell (p := nx a 2) ha).trans h2, (hb.cell (p := nx a 3) ha).trans h3, (hb.cell (p := nx a 4) ha).trans h4, (hb.cell (p := nx a 5) ha).trans h5, (hb.cell (p := nx a 6) ha).trans h6, (hb.cell (p := nx a 7) ha).trans h7, (hb.cell (p := nx a 8) ha).trans h8⟩
/-- The slice at A holds these segments, all below block B. -/
def Segs (w : World) (B : Nat) (A : Option Addr) (l : List SegV) : Prop :=
  0 < l.length → ∃ ad, A = some ad ∧ ad.block < B ∧ ∀ (i : Nat) (g : SegV), l[i]? = some g → SegAt w (ad.add (i * 9)) g
theorem Segs.step {w w' : World} {B : Nat} {A : Option Addr} {l : List SegV} (h : Segs w B A l) (hb : Below B w w') : Segs w' B A l := fun hn => by
  obtain ⟨ad, e, hB, hc⟩ := h hn
  exact ⟨ad, e, hB, fun i g hg => (hc i g hg).step hb (by rw [block_add]; exact hB)⟩
theorem Segs.more {w : World} {B B' : Nat} {A : Option Addr} {l : List SegV} (h : Segs w B A l) (hB : B ≤ B') : Segs w B' A l := fun hn => by
  obtain ⟨ad, e, h1, hc⟩ := h hn
  exact ⟨ad, e, by omega, hc⟩
theorem Segs.at_ {w : World} {B : Nat} {A : Option Addr} {l : List SegV} (h : Segs w B A l) {i : Nat} {g : SegV} (hg : l[i]? = some g) : ∃ ad, A = some ad ∧ ad.block < B ∧ SegAt w (ad.add (i * 9)) g := by
  have hi := (List.getElem?_eq_some_iff.1 hg).1
  obtain ⟨ad, e, hB, hc⟩ := h (by omega)
  exact ⟨ad, e, hB, hc i g hg⟩
/-- The four cells at a hold this subpath; its segments lie below block B. -/
def SubAt (w : World) (B : Nat) (a : Addr) (x : SubV) : Prop :=
  w.cell? a = some (.int .i64 x.1.1) ∧ w.cell? (nx a 1) = some (.int .i64 x.1.2) ∧ (∃ (A : Option Addr) (c : Nat), w.cell? (nx a 2) = some (.slice A x.2.1.length c) ∧ Segs w B A x.2.1) ∧ w.cell? (nx a 3) = some (.bool x.2.2)
def Subs (w : World) (B : Nat) (A : Option Addr) (l : List SubV) : Prop :=
  0 < l.length → ∃ ad, A = some ad ∧ ad.block < B ∧ ∀ (i : Nat) (x : SubV), l[i]? = some x → SubAt w B (ad.add (i * 4)) x
theorem SubAt.step {w w' : World} {B : Nat} {a : Addr} {x : SubV} (h : SubAt w B a x) (hb : Below B w w') (ha : a.block < B) : SubAt w' B a x := by
  obtain ⟨h0, h1, ⟨A, c, h2, h4⟩, h3⟩ := h
  exact ⟨(hb.cell ha).trans h0, (hb.cell (p := nx a 1) ha).trans h1, ⟨A, c, (hb.cell (p := nx a 2) ha).trans h2, h4.step hb⟩, (hb.cell (p := nx a 3) ha).trans h3⟩
theorem Subs.step {w w' : World} {B : Nat} {A : Option Addr} {l : List SubV} (h : Subs w B A l) (hb : Below B w w') : Subs w' B A l := fun hn => by
  obtain ⟨ad, e, hB, hc⟩ := h hn
  exact ⟨ad, e, hB, fun i g hg => (hc i g hg).step hb (by rw [block_add]; exact hB)⟩
theorem Subs.more {w : World} {B B' : Nat} {A : Option Addr} {l : List SubV} (h : Subs w B A l) (hB : B ≤ B') : Subs w B' A l := fun hn => by
  obtain ⟨ad, e, h1, hc⟩ := h hn
  refine ⟨ad, e, by omega, fun i x hx => ?_⟩
  obtain ⟨h0, h1, ⟨A, c, h2, h4⟩, h3⟩ := hc i x hx
  exact ⟨h0, h1, ⟨A, c, h2, h4.more hB⟩, h3⟩
theorem Subs.at_ {w : World} {B : Nat} {A : Option Addr} {l : List SubV} (h : Subs w B A l) {i : Nat} {x : SubV} (hx : l[i]? = some x) : ∃ ad, A = some ad ∧ ad.block < B ∧ SubAt w B (ad.add (i * 4)) x := by
  have hi := (List.getElem?_eq_some_iff.1 hx).1
  obtain ⟨ad, e, hB, hc⟩ := h (by omega)
  exact ⟨ad, e, hB, hc i x hx⟩
theorem Segs.calls {w w' : World} {A : Option Addr} {l : List SegV} (h : Segs w w.heap.size A l) (hb : Below w.heap.size w w') : Segs w' w'.heap.size A l := (h.step hb).more hb.size
theorem Subs.calls {w w' : World} {A : Option Addr} {l : List SubV} (h : Subs w w.heap.size A l) (hb : Below w.heap.size w w') : Subs w' w'.heap.size A l := (h.step hb).more hb.size
end Go.Proofs.YtalgmnnimfenpaaDoor
