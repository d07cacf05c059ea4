/- Appending whatever a slice holds, none as well, nil as well, onto a row of one's own. -/
import Derived.Test.YtalgmnnimfenpaaDoorApp6
import Derived.Test.YtalgmnnimfenpaaDoorCorL
import Derived.Deep.RegionHeld
namespace Go.Proofs.YtalgmnnimfenpaaDoor
open Go.RowKit
set_option linter.unusedVariables false
set_option linter.unusedSimpArgs false
set_option maxHeartbeats 2000000

section
variable {P : Program}
theorem run_append_vals (w : World) {t t2 e : TypeId} (ty : TypeId) (base : Nat) (i : TypeInfo) (z : Value) (size bytes : Nat) (ht : P.underlying t = some (.slice e)) (ht2 : P.underlying t2 = some (.slice e)) (hi : P.info? e = some i) (hz : i.zero = some z)
    (hsize : i.size = size) (hby : i.bytes = bytes) (hzs : z.cells.size = size) (hsz : 0 < size)
    (v : Value) (n : Nat) (xs : List Value) (hown : w.ownsRow base e size v n xs)
    (A : Option Addr) (m c : Nat) (news : List Value) (hl : news.length = m * size) (hnews : ∀ j u, news[j]? = some u → ∃ ad, A = some ad ∧ w.cell? (ad.add j) = some u) (h1 : ∀ u ∈ news, u.oneCell' = true) (hA : A = none → c = 0)
    (h63 : n + m ≤ maxLen) (hbytes : (n + m) * bytes ≤ 140737488355328) (hbase : base ≤ w.heap.size) :
    ∃ v' w', (Builtin.append_ #[t, t2] ty #[v, .slice A m c]).run P w = .ok v' w' ∧ w'.ownsRow base e size v' (n + m) (xs ++ news) ∧ Below base w w' ∧ (v' = v ∨ v' ≠ .slice none 0 0) := by
  have hge := ownsRow_ge hown
  obtain ⟨va, vn, vc, hv, hle⟩ : ∃ va vn vc, v = .slice va vn vc ∧ vn ≤ vc := by
    obtain ⟨_, ⟨hv, hn⟩ | ⟨g', cap', cur, hv, _, _, hcap, _⟩⟩ := hown
    · exact ⟨_, _, _, hv, Nat.le_refl _⟩
    · exact ⟨_, _, _, hv, hcap⟩
  by_cases hm : 0 < m
  · have hlen : 0 < news.length := by rw [hl]; exact Nat.mul_pos hm hsz
    obtain ⟨ad, rfl, _⟩ := hnews 0 _ (List.getElem?_eq_getElem hlen)
    have hnews2 : ∀ j u, news[j]? = some u → w.cell? (ad.add j) = some u := fun j u hu => by
      obtain ⟨ad', e', h'⟩ := hnews j u hu
      obtain rfl := Option.some.inj e'
      exact h'
    obtain ⟨g, cap, w', hr, h2, h3, h4, h5⟩ := run_append_lies (P := P) w t ty base e i z size bytes ht hi hz hsize hby hzs hsz v n xs hown ad m c news hl hnews2 h1 hm h63 hbytes hbase _ rfl
    subst hv
    exact ⟨_, w', (append_types (w := w) (ty := ty) ht ht2 va vn vc (.slice (some ad) m c)).trans hr, h2, (Below.refl _ _).grown h3 hbase hge, .inr (by simp)⟩
  · obtain rfl : m = 0 := by omega
    obtain rfl : news = [] := List.eq_nil_of_length_eq_zero (by simpa using hl)
    subst hv
    refine ⟨_, w, run_append_nothing (P := P) w t t2 ty e i ht hi va vn vc hle _ ?_, by simpa using hown, Below.refl _ _, .inl rfl⟩
    cases A with
    | none => rw [hA rfl]; exact Src.ofNil w ht2 0
    | some ad => exact Src.ofSlice w ht2 ad 0 c [] (by simp) (by simp) (by simp)
theorem wpList_append_vals (w : World) {ops : Array Oper} {rest : List Oper} {o : Oper} {a : Act} {Q : Exit → Act → World → Prop} (hgd : o.guard = none) (s x : Operand) {t t2 e : TypeId}
    (ho : o.op = .call { callee := .builtin .append, args := #[s, x], argTypes := #[t, t2] })
    (base : Nat) (i : TypeInfo) (z : Value) (size bytes : Nat) (ht : P.underlying t = some (.slice e)) (ht2 : P.underlying t2 = some (.slice e)) (hi : P.info? e = some i) (hz : i.zero = some z)
    (hsize : i.size = size) (hby : i.bytes = bytes) (hzs : z.cells.size = size) (hsz : 0 < size)
    (v : Value) (n : Nat) (xs : List Value) (hs : a.eval s = v) (hown : w.ownsRow base e size v n xs)
    (A : Option Addr) (m c : Nat) (news : List Value) (hx : a.eval x = .slice A m c) (hl : news.length = m * size) (hnews : ∀ j u, news[j]? = some u → ∃ ad, A = some ad ∧ w.cell? (ad.add j) = some u) (h1 : ∀ u ∈ news, u.oneCell' = true) (hA : A = none → c = 0)
    (h63 : n + m ≤ maxLen) (hbytes : (n + m) * bytes ≤ 140737488355328) (hbase : base ≤ w.heap.size)
    (h : ∀ v' w', w'.ownsRow base e size v' (n + m) (xs ++ news) → Below base w w' → (v' = v ∨ v' ≠ .slice none 0 0) → wpList P ops Q rest (a.put o.dst v') w') : wpList P ops Q (o :: rest) a w :=
  wpList_plain hgd fun K hK => by
    obtain ⟨v', w', hr, h2, h3, h4⟩ := run_append_vals (P := P) w o.type base i z size bytes ht ht2 hi hz hsize hby hzs hsz v n xs hown A m c news hl hnews h1 hA h63 hbytes hbase
    unfold Oper.wp execOp
    simp only [ho, resolve, invoke, builtin, Sem.run_bind, Sem.run_pure, Result.andThen_ok, List.map_toArray, List.map_cons, List.map_nil, hs, hx, hr]
    exact hK _ _ (h v' w' h2 h3 h4)
theorem step_append_vals {w : World} {ops : Array Oper} {o : Oper} {a : Act} {K : Act → World → Prop} {Q : Exit → Act → World → Prop} {E : Prop} (hgd : o.guard = none) (s x : Operand) {t t2 e : TypeId}
    (ho : o.op = .call { callee := .builtin .append, args := #[s, x], argTypes := #[t, t2] })
    (base : Nat) (i : TypeInfo) (z : Value) (size bytes : Nat) (ht : P.underlying t = some (.slice e)) (ht2 : P.underlying t2 = some (.slice e)) (hi : P.info? e = some i) (hz : i.zero = some z)
    (hsize : i.size = size) (hby : i.bytes = bytes) (hzs : z.cells.size = size) (hsz : 0 < size)
    (v : Value) (n : Nat) (xs : List Value) (hs : a.eval s = v) (hown : w.ownsRow base e size v n xs)
    (A : Option Addr) (m c : Nat) (news : List Value) (hx : a.eval x = .slice A m c) (hl : news.length = m * size) (hnews : ∀ j u, news[j]? = some u → ∃ ad, A = some ad ∧ w.cell? (ad.add j) = some u) (h1 : ∀ u ∈ news, u.oneCell' = true) (hA : A = none → c = 0)
    (h63 : n + m ≤ maxLen) (hbytes : (n + m) * bytes ≤ 140737488355328) (hbase : base ≤ w.heap.size)
    (h : ∀ v' w', w'.ownsRow base e size v' (n + m) (xs ++ news) → Below base w w' → (v' = v ∨ v' ≠ .slice none 0 0) → K (a.put o.dst v') w') :
    if Region.wanted o (yielded ops a.tmps) = true then Oper.wp P o a w K Q else E := by
  have hw : Region.wanted o (yielded ops a.tmps) = true := by simp [Region.wanted, hgd]
  rw [if_pos hw]
  obtain ⟨v', w', hr, h2, h3, h4⟩ := run_append_vals (P := P) w o.type base i z size bytes ht ht2 hi hz hsize hby hzs hsz v n xs hown A m c news hl hnews h1 hA h63 hbytes hbase
  unfold Oper.wp execOp
  simp only [ho, resolve, invoke, builtin, Sem.run_bind, Sem.run_pure, Result.andThen_ok, List.map_toArray, List.map_cons, List.map_nil, hs, hx, hr]
  exact h v' w' h2 h3 h4
end
/-- A store into another block. -/
theorem Vals.set {w : World} {B : Nat} {A : Option Addr} {vs : List Value} (h : Vals w B A vs) (p : Addr) (u : Value) (hne : ∀ ad, A = some ad → ad.block ≠ p.block) : Vals (w.setCell p u) B A vs := fun hn => by
  obtain ⟨ad, e, hB, hc⟩ := h hn
  have hb := hne ad e
  exact ⟨ad, e, hB, fun i q hq => (World.cell?_setCell_far w p _ u (by rw [block_add]; exact fun k => hb k.symm)).trans (hc i q hq)⟩
theorem Cor.set {w : World} {B : Nat} {A : Option Addr} {l : List Pnt} (h : Cor w B A l) (p : Addr) (u : Value) (hne : ∀ ad, A = some ad → ad.block ≠ p.block) : Cor (w.setCell p u) B A l := fun hn => by
  obtain ⟨ad, e, hB, hc⟩ := h hn
  refine ⟨ad, e, hB, fun i q hq => ?_⟩
  obtain ⟨h0, h1⟩ := hc i q hq
  have hb := hne ad e
  exact ⟨(World.cell?_setCell_far w p _ u (by rw [block_add]; exact fun k => hb k.symm)).trans h0, (World.cell?_setCell_far w p ⟨(ad.add (i * 2)).block, (ad.add (i * 2)).off + 1, none⟩ u (show p.block ≠ (ad.add (i * 2)).block by rw [block_add]; exact fun k => hb k.symm)).trans h1⟩
theorem row_far {w : World} {B : Nat} {e : TypeId} {k : Nat} {A : Option Addr} {n c m : Nat} {xs : List Value} (h : w.ownsRow B e k (.slice A n c) m xs) {p : Nat} (hp : p < B) : ∀ ad, A = some ad → ad.block ≠ p := fun ad ha => by
  subst ha
  obtain ⟨_, ⟨hv, _⟩ | ⟨g, cap, cur, hv, hB, _⟩⟩ := h
  · cases hv
  · cases hv; dsimp only; omega
end Go.Proofs.YtalgmnnimfenpaaDoor
