import Derived.Test.YtjjklchfcklahaaDoorCorn
import Derived.OwnWalk
import Derived.Deep.AppendLies
/- What the document's own layer 6 answers: Shift; rows of points that are appended to. -/
namespace Go.Proofs.YtjjklchfcklahaaDoor
open Go.RowKit
set_option linter.unusedVariables false
set_option linter.unusedSimpArgs false
set_option maxHeartbeats 8000000
set_option maxRecDepth 100000

theorem ownsRow_after {B : Nat} {e : TypeId} {k : Nat} {v : Value} {n : Nat} {xs : List Value} {w w' : World} (h : w.ownsRow B e k v n xs) (hb : Below w.heap.size w w') : w'.ownsRow B e k v n xs := by
  obtain ⟨hl, h0 | ⟨g, cap, cur, hv, hB, hh, r⟩⟩ := h
  · exact ⟨hl, .inl h0⟩
  · have hg : g < w.heap.size := by
      rcases Nat.lt_or_ge g w.heap.size with h1 | h1
      · exact h1
      · rw [Array.getElem?_eq_none h1] at hh; cases hh
    exact ⟨hl, .inr ⟨g, cap, cur, hv, hB, (hb.block g hg).trans hh, r⟩⟩
theorem ownsRow_ge {w : World} {B : Nat} {e : TypeId} {k : Nat} {v : Value} {n : Nat} {xs : List Value} (h : w.ownsRow B e k v n xs) : ∀ g, v.ownBlock = some g → B ≤ g := fun g hg => by
  obtain ⟨hl, ⟨hv, _⟩ | ⟨g', cap, cur, hv, hB, _⟩⟩ := h
  · subst hv; cases hg
  · subst hv; cases hg; exact hB
theorem info_pt : (Tryd.prog.info? 44).map (fun i => (i.zero, i.size, i.bytes)) = some (some (.agg #[.int .i64 0, .int .i64 0]), 2, 16) := by kernel_rfl
/-- The cells of these points. -/
def flatP (l : List Pnt) : List Value := l.flatMap fun p => [.int .i64 p.1, .int .i64 p.2]
theorem flat_snoc (l : List Pnt) (p : Pnt) : flatP (l ++ [p]) = flatP l ++ [.int .i64 p.1, .int .i64 p.2] := by unfold flatP; simp

end Go.Proofs.YtjjklchfcklahaaDoor

/- A row of points of one's own is a slice of corners. -/
namespace Go.Proofs.YtjjklchfcklahaaDoor
open Go.RowKit
set_option linter.unusedVariables false
set_option linter.unusedSimpArgs false
set_option maxHeartbeats 4000000

theorem flatP_cons (p : Pnt) (l : List Pnt) : flatP (p :: l) = .int .i64 p.1 :: .int .i64 p.2 :: flatP l := by unfold flatP; simp
theorem flatP_length (l : List Pnt) : (flatP l).length = l.length * 2 := by
  induction l with
  | nil => rfl
  | cons p l ih => rw [flatP_cons]; simp [ih]; omega
theorem flatP_get (l : List Pnt) : ∀ (i : Nat) (p : Pnt), l[i]? = some p → (flatP l)[i * 2]? = some (.int .i64 p.1) ∧ (flatP l)[i * 2 + 1]? = some (.int .i64 p.2) := by
  induction l with
  | nil => intro i p h; simp at h
  | cons q l ih =>
    intro i p h
    rw [flatP_cons]
    cases i with
    | zero => simp at h; subst h; exact ⟨rfl, rfl⟩
    | succ i =>
      have := ih i p (by simpa using h)
      rw [show (i + 1) * 2 = i * 2 + 1 + 1 by omega]
      simpa using this
/-- What a row of one's own holds, as a slice of corners. -/
theorem cor_of_row {w : World} {B : Nat} {e : TypeId} {v : Value} {n : Nat} {l : List Pnt} (h : w.ownsRow B e 2 v n (flatP l)) : ∃ A cap, v = .slice A l.length cap ∧ l.length = n ∧ Cor w w.heap.size A l ∧ (A = none → v = .slice none 0 0) := by
  obtain ⟨hl, ⟨hv, hn⟩ | ⟨g, cap, cur, hv, hB, hh, hcap, hmax, hsz, htk⟩⟩ := h
  · rw [flatP_length] at hl
    have h0 : l.length = 0 := by omega
    exact ⟨none, 0, by rw [hv, h0], by omega, fun h => by omega, fun _ => hv⟩
  · rw [flatP_length] at hl
    have h0 : l.length = n := by omega
    have hg : g < w.heap.size := by
      rcases Nat.lt_or_ge g w.heap.size with h1 | h1
      · exact h1
      · rw [Array.getElem?_eq_none h1] at hh; cases hh
    have ge : ∀ j u, (flatP l)[j]? = some u → w.cell? ⟨g, j, none⟩ = some u := fun j u hu => by
      rw [cell_of_row w g j cur e (0, 0) hh]
      rw [← htk, List.getElem?_take] at hu
      by_cases hj : j < n * 2
      · rw [if_pos hj] at hu; simpa using hu
      · rw [if_neg hj] at hu; cases hu
    refine ⟨some ⟨g, 0, none⟩, cap, by rw [hv, h0], h0, fun _ => ⟨⟨g, 0, none⟩, rfl, hg, fun i p hp => ?_⟩, fun h => by cases h⟩
    have ha : (⟨g, 0, none⟩ : Addr).add (i * 2) = ⟨g, i * 2, none⟩ := by unfold Addr.add; split <;> simp_all
    rw [ha]
    have hp2 := flatP_get l i p hp
    exact ⟨ge _ _ hp2.1, ge _ _ hp2.2⟩
end Go.Proofs.YtjjklchfcklahaaDoor

/- What the document's own layer 6 answers: Put, onto a list of one piece. -/
namespace Go.Proofs.YtjjklchfcklahaaDoor
open Go.RowKit
set_option linter.unusedVariables false
set_option linter.unusedSimpArgs false
set_option maxHeartbeats 8000000
set_option maxRecDepth 100000

theorem append_types {P : Program} {w : World} {t t2 ty e : TypeId} (ht : P.underlying t = some (.slice e)) (ht2 : P.underlying t2 = some (.slice e)) (a : Option Addr) (n c : Nat) (b : Value) : (Builtin.append_ #[t, t2] ty #[.slice a n c, b]).run P w = (Builtin.append_ #[t, t] ty #[.slice a n c, b]).run P w := by
  unfold Builtin.append_
  simp only [List.getElem?_toArray, List.getElem?_cons_zero, List.getElem?_cons_succ, Sem.run_bind, run_underlying ht, run_underlying ht2, Result.andThen_ok]
theorem und_pt : Tryd.prog.underlying 23 = some (.slice 44) := by kernel_rfl
theorem row_cell {w : World} {B : Nat} {e : TypeId} {k : Nat} {g n cap : Nat} {xs : List Value} (h : w.ownsRow B e k (.slice (some ⟨g, 0, none⟩) n cap) n xs) : g < w.heap.size ∧ ∀ j u, xs[j]? = some u → w.cell? ⟨g, j, none⟩ = some u := by
  obtain ⟨hl, ⟨hv, hn⟩ | ⟨g', cap', cur, hv, hB, hh, hcap, hmax, hsz, htk⟩⟩ := h
  · cases hv
  · cases hv
    refine ⟨?_, fun j u hu => ?_⟩
    · rcases Nat.lt_or_ge g w.heap.size with h1 | h1
      · exact h1
      · rw [Array.getElem?_eq_none h1] at hh; cases hh
    · rw [cell_of_row w g j cur e (0, 0) hh]
      rw [← htk, List.getElem?_take] at hu
      by_cases hj : j < n * k
      · rw [if_pos hj] at hu; simpa using hu
      · rw [if_neg hj] at hu; cases hu
end Go.Proofs.YtjjklchfcklahaaDoor

/- Lists of pieces: its. -/
namespace Go.Proofs.YtjjklchfcklahaaDoor
open Go.RowKit
set_option linter.unusedVariables false
set_option linter.unusedSimpArgs false
set_option maxHeartbeats 8000000
set_option maxRecDepth 100000

/-- The slice at A holds these values, a cell each. -/
def Vals (w : World) (B : Nat) (A : Option Addr) (vs : List Value) : Prop :=
  0 < vs.length → ∃ ad, A = some ad ∧ ad.block < B ∧ ∀ (i : Nat) (u : Value), vs[i]? = some u → w.cell? (ad.add i) = some u
theorem Vals.step {w w' : World} {B : Nat} {A : Option Addr} {vs : List Value} (h : Vals w B A vs) (hb : Below B w w') : Vals w' B A vs := fun hn => by
  obtain ⟨ad, e, hB, hc⟩ := h hn
  exact ⟨ad, e, hB, fun i u hu => (hb.cell (by rw [block_add]; exact hB)).trans (hc i u hu)⟩
theorem Vals.more {w : World} {B B' : Nat} {A : Option Addr} {vs : List Value} (h : Vals w B A vs) (hB : B ≤ B') : Vals w B' A vs := fun hn => by
  obtain ⟨ad, e, h1, hc⟩ := h hn
  exact ⟨ad, e, by omega, hc⟩
theorem Vals.at_ {w : World} {B : Nat} {A : Option Addr} {vs : List Value} (h : Vals w B A vs) {i : Nat} {u : Value} (hp : vs[i]? = some u) :
    ∃ ad, A = some ad ∧ ad.block < B ∧ w.cell? (ad.add i) = some u := by
  have hi := (List.getElem?_eq_some_iff.1 hp).1
  obtain ⟨ad, e, hB, hc⟩ := h (by omega)
  exact ⟨ad, e, hB, hc i u hp⟩
theorem vals_of_row {w : World} {B : Nat} {e : TypeId} {v : Value} {n : Nat} {vs : List Value} (h : w.ownsRow B e 1 v n vs) : ∃ A cap, v = .slice A vs.length cap ∧ vs.length = n ∧ Vals w w.heap.size A vs := by
  obtain ⟨hl, ⟨hv, hn⟩ | ⟨g, cap, cur, hv, hB, hh, hr⟩⟩ := h
  · have h0 : vs.length = 0 := by omega
    exact ⟨none, 0, by rw [hv, h0], by omega, fun h => by omega⟩
  · have h0 : vs.length = n := by omega
    have h2 : w.ownsRow B e 1 (.slice (some ⟨g, 0, none⟩) n cap) n vs := ⟨hl, .inr ⟨g, cap, cur, rfl, hB, hh, hr⟩⟩
    obtain ⟨hg, hc⟩ := row_cell h2
    refine ⟨some ⟨g, 0, none⟩, cap, by rw [hv, h0], h0, fun _ => ⟨⟨g, 0, none⟩, rfl, hg, fun i u hu => ?_⟩⟩
    rw [show (⟨g, 0, none⟩ : Addr).add i = ⟨g, i, none⟩ by unfold Addr.add; split <;> simp_all]
    exact hc i u hu

end Go.Proofs.YtjjklchfcklahaaDoor

/- Slices of corners that a program's text lists; slices of corners behind a call. -/
namespace Go.Proofs.YtjjklchfcklahaaDoor
open Go.RowKit
set_option linter.unusedVariables false
set_option linter.unusedSimpArgs false
set_option maxHeartbeats 2000000

theorem add_zero (a : Addr) : a.add 0 = a := by unfold Addr.add; simp
theorem Cor.calls {w w' : World} {A : Option Addr} {l : List Pnt} (h : Cor w w.heap.size A l) (hb : Below w.heap.size w w') : Cor w' w'.heap.size A l := (h.step hb).more hb.size
end Go.Proofs.YtjjklchfcklahaaDoor
