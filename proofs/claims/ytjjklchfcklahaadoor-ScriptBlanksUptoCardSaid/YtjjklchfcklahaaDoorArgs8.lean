/- Arguments that are slices of points with their bounds, and slices of bytes, as they come in. -/
import Derived.Test.YtjjklchfcklahaaDoorLawLib
import Derived.Test.YtjjklchfcklahaaDoorArgs7
import Derived.Test.YtjjklchfcklahaaDoorScriptPt
namespace Go.Proofs.YtjjklchfcklahaaDoor
open Go.RowKit Go.ChangeShapes Go.WideShapes Go.Deep Go.Joins
set_option linter.unusedVariables false
set_option linter.unusedSimpArgs false

section
variable {H : Type} {enc : TypeId × Value → H} {P : Program} {w : World} {sp : Nat → Bool} {hd : Bool}
theorem pt_cells64 {e i : TypeId} {g0 g1 : Field} {fuel : Nat} {a b : Value} {x : DataW H × List MemPlace} (he : P.underlying e = some (.struct #[g0, g1])) (hi : P.underlying i = some (.int .i64))
    (t0 : g0.type = i) (t1 : g1.type = i) (o0 : g0.offset = 0) (o1 : g1.offset = 1) (ci : P.cellsOf i = 1)
    (h : DataW.trod enc P w 0 sp hd fuel e [a, b] = some x) : ∃ q : Pnt, a = .int .i64 q.1 ∧ b = .int .i64 q.2 ∧ Int64P q := by
  obtain ⟨xs, n, _, _, _, hxl, hf⟩ := DataW.trod_struct he h
  match xs, hxl with
  | [y0, y1], _ =>
    have k0 := hf 0 g0 rfl
    have k1 := hf 1 g1 rfl
    rw [t0, o0, ci] at k0
    rw [t1, o1, ci] at k1
    obtain ⟨p, e0, _, b0⟩ := DataW.trod_int hi k0
    obtain ⟨q, e1, _, b1⟩ := DataW.trod_int hi k1
    simp at e0 e1
    exact ⟨(p, q), e0, e1, wf_i64 b0, wf_i64 b1⟩
/-- An argument that is a slice of points, each coordinate an int64. -/
theorem open_pts64 {t e i : TypeId} {g0 g1 : Field} {b0 : Nat} {r : Reach} {v : Value} {d : DataW H} {p : List MemPlace} (ht : P.underlying t = some (.slice e)) (he : P.underlying e = some (.struct #[g0, g1])) (hi : P.underlying i = some (.int .i64))
    (t0 : g0.type = i) (t1 : g1.type = i) (ce : P.cellsOf e = 2) (o0 : g0.offset = 0) (o1 : g1.offset = 1) (ci : P.cellsOf i = 1)
    (hv : Value.okWide P w r b0 t v) (h : DataW.Trod enc P w 0 sp hd t v d p) :
    ∃ (A : Option Addr) (cap : Nat) (l : List Pnt), v = .slice A l.length cap ∧ l.length ≤ cap ∧ l.length ≤ 9223372036854775807 ∧ Cor w w.heap.size A l ∧ ∀ q ∈ l, Int64P q := by
  obtain ⟨a0, len0, cap0, rfl⟩ := okWide_slice ht hv
  obtain ⟨fuel, hf⟩ := h
  rcases open_slice ht hf with ⟨hc, _⟩ | ⟨a, len, cap, m, n, D, Pl, hc, _, hl, hm, hmm, _, hall⟩
  · have hc2 : Value.slice a0 len0 cap0 = .slice none 0 0 := by simpa [Value.cells] using hc
    exact ⟨none, 0, [], hc2, Nat.le_refl _, by simp, fun h => absurd h (Nat.lt_irrefl 0), fun q hq => by cases hq⟩
  · have hc2 : Value.slice a0 len0 cap0 = .slice (some a) len cap := by simpa [Value.cells] using hc
    have hlm : len ≤ m := by rw [hmm]; split <;> omega
    obtain ⟨l, hlen, hx⟩ := row_of (α := Pnt) (n := len) (p := fun j q => (w.cell? (a.add (j * 2)) = some (.int .i64 q.1) ∧ w.cell? (nx (a.add (j * 2)) 1) = some (.int .i64 q.2)) ∧ Int64P q) (fun j hj => by
      obtain ⟨cs', h1, h2⟩ := hall j (by omega)
      rw [ce] at h1
      obtain ⟨_, hlen, hcell⟩ := World.cells?_some h1
      match cs', hlen with
      | [v0, v1], _ =>
        obtain ⟨q, rfl, rfl, hq⟩ := pt_cells64 he hi t0 t1 o0 o1 ci h2
        have c0 := hcell 0 (by omega)
        have c1 := hcell 1 (by omega)
        rw [add_pos (by omega)] at c1
        exact ⟨q, ⟨by simpa [add_nil] using c0, by simpa using c1⟩, hq⟩)
    subst hlen
    refine ⟨some a, cap, l, hc2, hl, by simp only [maxLen] at hm; omega, fun h0 => ⟨a, rfl, ?_, fun j q hq => (hx j q hq).1⟩, fun q hq => ?_⟩
    · have := World.block_lt_of_cell? w _ (hx 0 _ (List.getElem?_eq_getElem h0)).1.1
      rwa [block_add] at this
    · obtain ⟨j, hj⟩ := List.getElem?_of_mem hq
      exact (hx j q hj).2
/-- An argument that is a slice of bytes. -/
theorem open_bytes {t i : TypeId} {b0 : Nat} {r : Reach} {v : Value} {d : DataW H} {p : List MemPlace} (ht : P.underlying t = some (.slice i)) (hi : P.underlying i = some (.int .u8)) (ci : P.cellsOf i = 1)
    (hv : Value.okWide P w r b0 t v) (h : DataW.Trod enc P w 0 sp hd t v d p) :
    ∃ (A : Option Addr) (cap : Nat) (l : List UInt8), v = .slice A l.length cap ∧ l.length ≤ cap ∧ l.length ≤ 9223372036854775807 ∧ Vals w w.heap.size A (l.map bV) := by
  obtain ⟨a0, len0, cap0, rfl⟩ := okWide_slice ht hv
  obtain ⟨fuel, hf⟩ := h
  rcases open_slice1 ht ci hf with ⟨hc, _⟩ | ⟨a, len, cap, m, n, V, D, Pl, hc, _, hl, hm, hmm, _, hall⟩
  · have hc2 : Value.slice a0 len0 cap0 = .slice none 0 0 := by simpa [Value.cells] using hc
    exact ⟨none, 0, [], hc2, Nat.le_refl _, by simp, fun h => absurd h (Nat.lt_irrefl 0)⟩
  · have hc2 : Value.slice a0 len0 cap0 = .slice (some a) len cap := by simpa [Value.cells] using hc
    have hlm : len ≤ m := by rw [hmm]; split <;> omega
    obtain ⟨l, hlen, hx⟩ := row_of (α := UInt8) (n := len) (p := fun j q => w.cell? (a.add j) = some (bV q)) (fun j hj => by
      obtain ⟨k0, r0⟩ := hall j (by omega)
      obtain ⟨q, e0, _, b0⟩ := DataW.trod_int hi r0
      simp at e0
      obtain ⟨h0, h1⟩ := wf_u8 b0
      refine ⟨UInt8.ofNat q.toNat, ?_⟩
      rw [k0, e0]
      unfold bV
      have e8 : (UInt8.ofNat q.toNat).toNat = q.toNat := UInt8.toNat_ofNat_of_lt' (by show q.toNat < 256; omega)
      rw [e8, Int.toNat_of_nonneg h0])
    subst hlen
    refine ⟨some a, cap, l, hc2, hl, by simp only [maxLen] at hm; omega, fun h0 => ⟨a, rfl, ?_, fun j u hu => ?_⟩⟩
    · rw [List.length_map] at h0
      have := World.block_lt_of_cell? w _ (hx 0 _ (List.getElem?_eq_getElem h0))
      rwa [block_add] at this
    · rw [List.getElem?_map, Option.map_eq_some_iff] at hu
      obtain ⟨q, hq, rfl⟩ := hu
      exact hx j q hq
end
end Go.Proofs.YtjjklchfcklahaaDoor
