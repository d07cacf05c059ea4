/- Arguments that are slices of points; arguments of whatever types that are only read: they read again as they did. -/
import Derived.Test.YtlgfnhapjhoelaaCorn
import Derived.Deep.SlicePairs
import Derived.ReadAgain
import Derived.ChangeSame
import Derived.ChangeOld
import Derived.Below
namespace Go.Proofs.Ytlgfnhapjhoelaa
open Go.RowKit Go.ChangeShapes Go.WideShapes Go.Deep
set_option linter.unusedVariables false
set_option linter.unusedSimpArgs false

section
variable {H : Type} {enc : TypeId × Value → H} {P : Program} {w W W' : World} {sp : Nat → Bool} {hd : Bool}
theorem args_carry (hs0 : 0 = 0) : ∀ {ts : List TypeId} {vs : List Value} {ds : List (DataW H)} {ps : List MemPlace}, DataW.TrodAll enc P W 0 sp hd ts vs ds ps → (∀ p ∈ ps, W.sameAt W' p) → DataW.TrodAll enc P W' 0 sp hd ts vs ds ps
  | [], [], [], _, h, _ => h
  | _ :: _, _ :: _, _ :: _, _, ⟨p, q, ⟨n, h1⟩, h2, e⟩, hs => ⟨p, q, ⟨n, DataW.trod_carry n _ _ _ h1 fun x hx => hs x (by rw [e]; exact List.mem_append_left _ hx)⟩, args_carry hs0 h2 (fun x hx => hs x (by rw [e]; exact List.mem_append_right _ hx)), e⟩
/-- What came in reads again as it did, where only new memory was written. -/
theorem args_again (hl : laidOutB P = true) (hm : mapsRowed P = true)
    (hf : ((List.range P.types.size).all fun t => match P.underlying t with | some (.slice e) => decide (0 < P.cellsOf e) | _ => true) = true)
    {ts : List TypeId} {vs : List Value} {ds : List (DataW H)} {ps : List MemPlace} (hT : ∀ t ∈ ts, t < P.types.size)
    (h : DataW.TrodAll enc P W 0 (fun _ => true) true ts vs ds ps) (hb : Below W.heap.size W W') :
    DataW.TrodAll enc P W' 0 (fun b => decide (b < W.heap.size)) true ts vs ds ps :=
  have hlt := DataW.TrodAll.lt h
  args_carry rfl (DataW.TrodAll.respare (kids_rows hl hm) (fun t e ht hu => slices_full_of P hf t e ht hu) hT h (fun p hp => decide_eq_true (hlt p hp))) (fun p hp => hb.same (hlt p hp))
/-- An argument that is a slice of points. -/
theorem open_pts {t e i : TypeId} {f0 f1 : Field} {b0 : Nat} {r : Reach} {v : Value} {d : DataW H} {p : List MemPlace} (ht : P.underlying t = some (.slice e)) (he : P.underlying e = some (.struct #[f0, f1])) (hi : P.underlying i = some (.int .i64))
    (t0 : f0.type = i) (t1 : f1.type = i) (ce : P.cellsOf e = 2) (o0 : f0.offset = 0) (o1 : f1.offset = 1) (ci : P.cellsOf i = 1)
    (hv : Value.okWide P w r b0 t v) (h : DataW.Trod enc P w 0 sp hd t v d p) :
    ∃ (A : Option Addr) (cap : Nat) (l : List Pnt), v = .slice A l.length cap ∧ l.length ≤ cap ∧ l.length ≤ 9223372036854775807 ∧ Cor w w.heap.size A l := by
  obtain ⟨a0, len0, cap0, rfl⟩ := okWide_slice ht hv
  obtain ⟨fuel, hf⟩ := h
  rcases open_slice_pairs ht he ce o0 o1 (by rw [t0]; exact ci) (by rw [t1]; exact ci) hf with ⟨hc, _⟩ | ⟨a, len, cap, m, n, V0, V1, D0, D1, P0, P1, hc, _, hl, hm, hmm, _, hall⟩
  · have hc2 : Value.slice a0 len0 cap0 = .slice none 0 0 := by simpa [Value.cells] using hc
    exact ⟨none, 0, [], hc2, Nat.le_refl _, by simp, fun h => absurd h (Nat.lt_irrefl 0)⟩
  · have hc2 : Value.slice a0 len0 cap0 = .slice (some a) len cap := by simpa [Value.cells] using hc
    have hlm : len ≤ m := by rw [hmm]; split <;> omega
    have each : ∀ i0, ∃ q : Pnt, i0 < len → w.cell? (a.add (i0 * 2)) = some (.int .i64 q.1) ∧ w.cell? (a.add (i0 * 2 + 1)) = some (.int .i64 q.2) := by
      intro i0
      by_cases hi0 : i0 < len
      · obtain ⟨k0, k1, r0, r1⟩ := hall i0 (by omega)
        rw [t0] at r0
        rw [t1] at r1
        obtain ⟨x, e0, _⟩ := DataW.trod_int hi r0
        obtain ⟨y, e1, _⟩ := DataW.trod_int hi r1
        simp at e0 e1
        exact ⟨(x, y), fun _ => ⟨by rw [k0, e0], by rw [k1, e1]⟩⟩
      · exact ⟨(0, 0), fun h => absurd h hi0⟩
    obtain ⟨f, hf2⟩ := Classical.axiomOfChoice each
    have hlen : ((List.range len).map f).length = len := by simp
    refine ⟨some a, cap, (List.range len).map f, by rw [hlen]; exact hc2, by rw [hlen]; exact hl, by rw [hlen]; simp only [maxLen] at hm; omega, fun h0 => ?_⟩
    rw [hlen] at h0
    refine ⟨a, rfl, ?_, fun j q hq => ?_⟩
    · have := World.block_lt_of_cell? w _ (hf2 0 h0).1
      rwa [block_add] at this
    · have hj : j < len := by
        have := (List.getElem?_eq_some_iff.1 hq).1
        rwa [hlen] at this
      have e : f j = q := by
        rw [List.getElem?_map, List.getElem?_range hj] at hq
        exact Option.some.inj hq
      subst e
      obtain ⟨g0, g1⟩ := hf2 j hj
      rw [snd2_add] at g1
      exact ⟨g0, g1⟩
end
end Go.Proofs.Ytlgfnhapjhoelaa
