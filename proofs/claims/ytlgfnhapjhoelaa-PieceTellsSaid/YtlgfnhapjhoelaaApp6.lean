/- Appending any many elements (none as well) onto a row of one's own, at a step of a region that draws its order; parts of a slice of corners. -/
import Derived.Test.YtlgfnhapjhoelaaRef6F
import Derived.Test.YtlgfnhapjhoelaaCorL
import Derived.Deep.Upon
namespace Go.Proofs.Ytlgfnhapjhoelaa
open Go.RowKit
set_option linter.unusedVariables false
set_option linter.unusedSimpArgs false
set_option maxHeartbeats 2000000

theorem step_append_any {P : Program} {w : World} {ops : Array Oper} {o : Oper} {a : Act} {K : Act → World → Prop} {Q : Exit → Act → World → Prop} {E : Prop} (hgd : o.guard = none) (s x : Operand) (t t2 : TypeId)
    (ho : o.op = .call { callee := .builtin .append, args := #[s, x], argTypes := #[t, t2] })
    (base : Nat) (e : TypeId) (i : TypeInfo) (z : Value) (size bytes : Nat) (ht : P.underlying t = some (.slice e)) (ht2 : P.underlying t2 = some (.slice e)) (hi : P.info? e = some i) (hz : i.zero = some z)
    (hsize : i.size = size) (hby : i.bytes = bytes) (hzs : z.cells.size = size) (hsz : 0 < size)
    (v : Value) (n : Nat) (xs : List Value) (hs : a.eval s = v) (hv0 : v ≠ .slice none 0 0) (hown : w.ownsRow base e size v n xs)
    (ad : Addr) (m c : Nat) (news : List Value) (hx : a.eval x = .slice (some ad) m c) (hl : news.length = m * size) (hnews : ∀ j u, news[j]? = some u → w.cell? (ad.add j) = some u) (h1 : ∀ u ∈ news, u.oneCell' = true)
    (h63 : n + m ≤ maxLen) (hbytes : (n + m) * bytes ≤ 140737488355328) (hbase : base ≤ w.heap.size)
    (h : ∀ v' w', v' ≠ .slice none 0 0 → w'.ownsRow base e size v' (n + m) (xs ++ news) → Below base w w' → K (a.put o.dst v') w') :
    if Region.wanted o (yielded ops a.tmps) = true then Oper.wp P o a w K Q else E := by
  have hw : Region.wanted o (yielded ops a.tmps) = true := by simp [Region.wanted, hgd]
  rw [if_pos hw]
  have hge := ownsRow_ge hown
  obtain ⟨va, vn, vc, hv, hle⟩ : ∃ va vn vc, v = .slice va vn vc ∧ vn ≤ vc := by
    obtain ⟨_, ⟨hv, hn⟩ | ⟨g', cap', cur, hv, _, _, hcap, _⟩⟩ := hown
    · exact ⟨_, _, _, hv, Nat.le_refl _⟩
    · exact ⟨_, _, _, hv, hcap⟩
  by_cases hm : 0 < m
  · obtain ⟨g, cap, w', hr, h2, h3, h4, h5⟩ := run_append_lies (P := P) w t o.type base e i z size bytes ht hi hz hsize hby hzs hsz v n xs hown ad m c news hl hnews h1 hm h63 hbytes hbase _ rfl
    have hb : Below base w w' := (Below.refl _ _).grown h3 hbase hge
    subst hv
    have hr2 := (append_types (w := w) (ty := o.type) ht ht2 va vn vc (.slice (some ad) m c)).trans hr
    unfold Oper.wp execOp
    simp only [ho, resolve, invoke, builtin, Sem.run_bind, Sem.run_pure, Result.andThen_ok, List.map_toArray, List.map_cons, List.map_nil, hs, hx, hr2]
    exact h _ _ (by simp) h2 hb
  · obtain rfl : m = 0 := by omega
    obtain rfl : news = [] := List.eq_nil_of_length_eq_zero (by simpa using hl)
    have hsrc : Src P i.size t2 (.slice (some ad) 0 c) 0 [] w := Src.ofSlice w ht2 ad 0 c [] (by simp) (by simp) (by simp)
    subst hv
    have hr2 := run_append_nothing (P := P) w t t2 o.type e i ht hi va vn vc hle _ hsrc
    unfold Oper.wp execOp
    simp only [ho, resolve, invoke, builtin, Sem.run_bind, Sem.run_pure, Result.andThen_ok, List.map_toArray, List.map_cons, List.map_nil, hs, hx, hr2]
    exact h _ _ hv0 (by simpa using hown) (Below.refl _ _)
/-- What begins at corner k. -/
theorem Cor.drop {w : World} {B : Nat} {ad : Addr} {l : List Pnt} (h : Cor w B (some ad) l) (k : Nat) (hk : k < l.length) : Cor w B (some (ad.add (k * 2))) (l.drop k) := fun _ => by
  obtain ⟨ad', e, hB, hc⟩ := h (by omega)
  obtain rfl := Option.some.inj e
  refine ⟨_, rfl, by rw [block_add]; exact hB, fun i p hp => ?_⟩
  rw [List.getElem?_drop] at hp
  have := hc (k + i) p hp
  rw [add_add, show k * 2 + i * 2 = (k + i) * 2 by omega]
  exact this
theorem Cor.take {w : World} {B : Nat} {A : Option Addr} {l : List Pnt} (h : Cor w B A l) (k : Nat) : Cor w B A (l.take k) := fun hk => by
  rw [List.length_take] at hk
  obtain ⟨ad, e, hB, hc⟩ := h (by omega)
  refine ⟨ad, e, hB, fun i p hp => hc i p ?_⟩
  rw [List.getElem?_take] at hp
  split at hp
  · exact hp
  · cases hp
end Go.Proofs.Ytlgfnhapjhoelaa
