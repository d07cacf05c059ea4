/- Arguments that are paths (two slices in a struct), and slices of subpaths, as they come in. -/
import Derived.Test.YtjjklchfcklahaaDoorArgs
import Derived.Test.YtjjklchfcklahaaDoorSegs
import Derived.OpenShut
import Derived.Lib.SmallJoins
namespace Go.Proofs.YtjjklchfcklahaaDoor
open Go.RowKit Go.ChangeShapes Go.WideShapes Go.Deep Go.Joins
set_option linter.unusedVariables false
set_option linter.unusedSimpArgs false

theorem row_of {α : Type} [Inhabited α] {n : Nat} {p : Nat → α → Prop} (h : ∀ i, i < n → ∃ x, p i x) : ∃ l : List α, l.length = n ∧ ∀ i x, l[i]? = some x → p i x := by
  obtain ⟨f, hf⟩ := choose_lt h
  refine ⟨(List.range n).map f, by simp, fun i x hx => ?_⟩
  have hi : i < n := by
    have := (List.getElem?_eq_some_iff.1 hx).1
    simpa using this
  rw [List.getElem?_map, List.getElem?_range hi] at hx
  rw [← Option.some.inj hx]
  exact hf i hi
theorem add_nil (a : Addr) : a.add 0 = a := by unfold Addr.add; simp
theorem add_pos {a : Addr} {j : Nat} (h : j ≠ 0) : a.add j = nx a j := by unfold Addr.add; rw [if_neg h]

section
variable {H : Type} {enc : TypeId × Value → H} {P : Program} {w : World} {sp : Nat → Bool} {hd : Bool}
/-- A slice of whole numbers. -/
theorem ints_cells {t i : TypeId} {fuel : Nat} {cs : List Value} {x : DataW H × List MemPlace} (ht : P.underlying t = some (.slice i)) (hi : P.underlying i = some (.int .i64)) (ci : P.cellsOf i = 1)
    (h : DataW.trod enc P w 0 sp hd fuel t cs = some x) :
    ∃ (A : Option Addr) (cap : Nat) (l : List Int), cs = [.slice A l.length cap] ∧ l.length ≤ cap ∧ cap ≤ 9223372036854775807 ∧ (A = none → cap = 0) ∧ Vals w w.heap.size A (l.map iV) := by
  rcases open_slice1 ht ci h with ⟨rfl, _⟩ | ⟨a, len, cap, m, n, V, D, Pl, rfl, _, hl, hm, hmm, _, hall⟩
  · exact ⟨none, 0, [], rfl, Nat.le_refl _, by simp, fun _ => rfl, fun h => absurd h (Nat.lt_irrefl 0)⟩
  · have hlm : len ≤ m := by rw [hmm]; split <;> omega
    obtain ⟨l, hlen, hx⟩ := row_of (α := Int) (n := len) (p := fun j q => w.cell? (a.add j) = some (.int .i64 q)) (fun j hj => by
      obtain ⟨k0, r0⟩ := hall j (by omega)
      obtain ⟨q, e0, _⟩ := DataW.trod_int hi r0
      simp at e0
      exact ⟨q, by rw [k0, e0]⟩)
    subst hlen
    refine ⟨some a, cap, l, rfl, hl, by simp only [maxLen] at hm; omega, (fun e => by cases e), fun h0 => ⟨a, rfl, ?_, fun j u hu => ?_⟩⟩
    · rw [List.length_map] at h0
      have := World.block_lt_of_cell? w _ (hx 0 _ (List.getElem?_eq_getElem h0))
      rwa [block_add] at this
    · rw [List.getElem?_map, Option.map_eq_some_iff] at hu
      obtain ⟨q, hq, rfl⟩ := hu
      exact hx j q hq
/-- A point's two cells. -/
theorem pt_cells {e i : TypeId} {g0 g1 : Field} {fuel : Nat} {a b : Value} {x : DataW H × List MemPlace} (he : P.underlying e = some (.struct #[g0, g1])) (hi : P.underlying i = some (.int .i64))
    (t0 : g0.type = i) (t1 : g1.type = i) (o0 : g0.offset = 0) (o1 : g1.offset = 1) (ci : P.cellsOf i = 1)
    (h : DataW.trod enc P w 0 sp hd fuel e [a, b] = some x) : ∃ q : Pnt, a = .int .i64 q.1 ∧ b = .int .i64 q.2 := by
  obtain ⟨xs, n, _, _, _, hxl, hf⟩ := DataW.trod_struct he h
  match xs, hxl with
  | [y0, y1], _ =>
    have k0 := hf 0 g0 rfl
    have k1 := hf 1 g1 rfl
    rw [t0, o0, ci] at k0
    rw [t1, o1, ci] at k1
    obtain ⟨p, e0, _⟩ := DataW.trod_int hi k0
    obtain ⟨q, e1, _⟩ := DataW.trod_int hi k1
    simp at e0 e1
    exact ⟨(p, q), e0, e1⟩
/-- A slice of points. -/
theorem pts_cells {t e i : TypeId} {g0 g1 : Field} {fuel : Nat} {cs : List Value} {x : DataW H × List MemPlace} (ht : P.underlying t = some (.slice e)) (he : P.underlying e = some (.struct #[g0, g1])) (hi : P.underlying i = some (.int .i64))
    (t0 : g0.type = i) (t1 : g1.type = i) (ce : P.cellsOf e = 2) (o0 : g0.offset = 0) (o1 : g1.offset = 1) (ci : P.cellsOf i = 1)
    (h : DataW.trod enc P w 0 sp hd fuel t cs = some x) :
    ∃ (A : Option Addr) (cap : Nat) (l : List Pnt), cs = [.slice A l.length cap] ∧ l.length ≤ cap ∧ cap ≤ 9223372036854775807 ∧ (A = none → cap = 0) ∧ Cor w w.heap.size A l := by
  rcases open_slice ht h with ⟨rfl, _⟩ | ⟨a, len, cap, m, n, D, Pl, rfl, _, hl, hm, hmm, _, hall⟩
  · exact ⟨none, 0, [], rfl, Nat.le_refl _, by simp, fun _ => rfl, fun h => absurd h (Nat.lt_irrefl 0)⟩
  · have hlm : len ≤ m := by rw [hmm]; split <;> omega
    obtain ⟨l, hlen, hx⟩ := row_of (α := Pnt) (n := len) (p := fun j q => w.cell? (a.add (j * 2)) = some (.int .i64 q.1) ∧ w.cell? (nx (a.add (j * 2)) 1) = some (.int .i64 q.2)) (fun j hj => by
      obtain ⟨cs', h1, h2⟩ := hall j (by omega)
      rw [ce] at h1
      obtain ⟨_, hlen, hcell⟩ := World.cells?_some h1
      match cs', hlen with
      | [v0, v1], _ =>
        obtain ⟨q, rfl, rfl⟩ := pt_cells he hi t0 t1 o0 o1 ci h2
        have c0 := hcell 0 (by omega)
        have c1 := hcell 1 (by omega)
        rw [add_pos (by omega)] at c1
        exact ⟨q, by simpa [add_nil] using c0, by simpa using c1⟩)
    subst hlen
    refine ⟨some a, cap, l, rfl, hl, by simp only [maxLen] at hm; omega, (fun e => by cases e), fun h0 => ⟨a, rfl, ?_, fun j q hq => hx j q hq⟩⟩
    have := World.block_lt_of_cell? w _ (hx 0 _ (List.getElem?_eq_getElem h0)).1
    rwa [block_add] at this
/-- An argument that is a path. -/
theorem open_path {t e i : TypeId} {f0 f1 g0 g1 : Field} {b0 : Nat} {r : Reach} {v : Value} {d : DataW H} {p : List MemPlace} (ht : P.underlying t = some (.struct #[f0, f1])) (hone : oneCellFields P #[f0, f1] = true) (hC : P.cellsOf t = 2)
    (h0 : P.underlying f0.type = some (.slice i)) (h1 : P.underlying f1.type = some (.slice e)) (he : P.underlying e = some (.struct #[g0, g1])) (hi : P.underlying i = some (.int .i64))
    (t0 : g0.type = i) (t1 : g1.type = i) (ce : P.cellsOf e = 2) (o0 : g0.offset = 0) (o1 : g1.offset = 1) (ci : P.cellsOf i = 1)
    (hv : Value.okWide P w r b0 t v) (h : DataW.Trod enc P w 0 sp hd t v d p) :
    ∃ (A B : Option Addr) (cv cp : Nat) (vs : List Int) (ps : List Pnt), v = .agg #[.slice A vs.length cv, .slice B ps.length cp] ∧
      (vs.length ≤ cv ∧ cv ≤ 9223372036854775807 ∧ (A = none → cv = 0) ∧ Vals w w.heap.size A (vs.map iV)) ∧ (ps.length ≤ cp ∧ cp ≤ 9223372036854775807 ∧ (B = none → cp = 0) ∧ Cor w w.heap.size B ps) := by
  obtain ⟨v0, v1, y0, y1, n, rfl, _, _, k0, k1⟩ := open_agg2 ht hone hC hv h
  obtain ⟨A, cv, vs, e0, a1, a2, a3, a4⟩ := ints_cells h0 hi ci k0
  obtain ⟨B, cp, ps, e1, c1, c2, c3, c4⟩ := pts_cells h1 he hi t0 t1 ce o0 o1 ci k1
  simp at e0 e1
  exact ⟨A, B, cv, cp, vs, ps, by rw [e0, e1], ⟨a1, a2, a3, a4⟩, ⟨c1, c2, c3, c4⟩⟩
end
end Go.Proofs.YtjjklchfcklahaaDoor
