/- Two rows in one struct, each appended to in its turn. -/
import Derived.Test.YtjjklchfcklahaaDoorRef7F
namespace Go.Proofs.YtjjklchfcklahaaDoor
open Go.RowKit
set_option linter.unusedVariables false
set_option linter.unusedSimpArgs false
set_option maxHeartbeats 2000000

section
variable {P : Program}
/-- What an append does, whatever is appended: the row, the memory that it may touch, and where the value lies. -/
structure Appd (w w' : World) (base : Nat) (e : TypeId) (size : Nat) (v v' : Value) (n : Nat) (xs : List Value) : Prop where
  row : w'.ownsRow base e size v' n xs
  grew : w.grownBy w' v.ownBlock
  own : v'.ownBlock = v.ownBlock ∨ v'.ownBlock = some w.heap.size
theorem run_append_full (w : World) {t t2 e : TypeId} (ty : TypeId) (base : Nat) (i : TypeInfo) (z : Value) (size bytes : Nat) (ht : P.underlying t = some (.slice e)) (ht2 : P.underlying t2 = some (.slice e)) (hi : P.info? e = some i) (hz : i.zero = some z)
    (hsize : i.size = size) (hby : i.bytes = bytes) (hzs : z.cells.size = size) (hsz : 0 < size)
    (v : Value) (n : Nat) (xs : List Value) (hown : w.ownsRow base e size v n xs)
    (A : Option Addr) (m c : Nat) (news : List Value) (hl : news.length = m * size) (hnews : ∀ j u, news[j]? = some u → ∃ ad, A = some ad ∧ w.cell? (ad.add j) = some u) (h1 : ∀ u ∈ news, u.oneCell' = true) (hA : A = none → c = 0)
    (h63 : n + m ≤ maxLen) (hbytes : (n + m) * bytes ≤ 140737488355328) (hbase : base ≤ w.heap.size) :
    ∃ v' w', (Builtin.append_ #[t, t2] ty #[v, .slice A m c]).run P w = .ok v' w' ∧ Appd w w' base e size v v' (n + m) (xs ++ news) ∧ ∃ a' c', v' = .slice a' (n + m) c' := by
  obtain ⟨va, vn, vc, hv, hle, hvn⟩ : ∃ va vn vc, v = .slice va vn vc ∧ vn ≤ vc ∧ vn = n := by
    obtain ⟨_, ⟨hv, hn⟩ | ⟨g', cap', cur, hv, _, _, hcap, _⟩⟩ := hown
    · exact ⟨_, _, _, hv, Nat.le_refl _, hn.symm⟩
    · exact ⟨_, _, _, hv, hcap, rfl⟩
  by_cases hm : 0 < m
  · have hlen : 0 < news.length := by rw [hl]; exact Nat.mul_pos hm hsz
    obtain ⟨ad, rfl, _⟩ := hnews 0 _ (List.getElem?_eq_getElem hlen)
    have hnews2 : ∀ j u, news[j]? = some u → w.cell? (ad.add j) = some u := fun j u hu => by
      obtain ⟨ad', e', h'⟩ := hnews j u hu
      obtain rfl := Option.some.inj e'
      exact h'
    obtain ⟨g, cap, w', hr, h2, h3, h4, h5⟩ := run_append_lies (P := P) w t ty base e i z size bytes ht hi hz hsize hby hzs hsz v n xs hown ad m c news hl hnews2 h1 hm h63 hbytes hbase _ rfl
    subst hv
    refine ⟨_, w', (append_types (w := w) (ty := ty) ht ht2 va vn vc (.slice (some ad) m c)).trans hr, ⟨h2, h3, ?_⟩, _, _, rfl⟩
    rcases h4 with h4 | h4
    · exact .inl h4.symm
    · exact .inr (by rw [h4]; rfl)
  · obtain rfl : m = 0 := by omega
    obtain rfl : news = [] := List.eq_nil_of_length_eq_zero (by simpa using hl)
    subst hv
    refine ⟨_, w, run_append_nothing (P := P) w t t2 ty e i ht hi va vn vc hle _ ?_, ⟨by simpa using hown, World.grownBy.refl _ _, .inl rfl⟩, va, vc, by rw [hvn]; rfl⟩
    cases A with
    | none => rw [hA rfl]; exact Src.ofNil w ht2 0
    | some ad => exact Src.ofSlice w ht2 ad 0 c [] (by simp) (by simp) (by simp)
theorem wpList_append_full (w : World) {ops : Array Oper} {rest : List Oper} {o : Oper} {a : Act} {Q : Exit → Act → World → Prop} (hgd : o.guard = none) (s x : Operand) {t t2 e : TypeId}
    (ho : o.op = .call { callee := .builtin .append, args := #[s, x], argTypes := #[t, t2] })
    (base : Nat) (i : TypeInfo) (z : Value) (size bytes : Nat) (ht : P.underlying t = some (.slice e)) (ht2 : P.underlying t2 = some (.slice e)) (hi : P.info? e = some i) (hz : i.zero = some z)
    (hsize : i.size = size) (hby : i.bytes = bytes) (hzs : z.cells.size = size) (hsz : 0 < size)
    (v : Value) (n : Nat) (xs : List Value) (hs : a.eval s = v) (hown : w.ownsRow base e size v n xs)
    (A : Option Addr) (m c : Nat) (news : List Value) (hx : a.eval x = .slice A m c) (hl : news.length = m * size) (hnews : ∀ j u, news[j]? = some u → ∃ ad, A = some ad ∧ w.cell? (ad.add j) = some u) (h1 : ∀ u ∈ news, u.oneCell' = true) (hA : A = none → c = 0)
    (h63 : n + m ≤ maxLen) (hbytes : (n + m) * bytes ≤ 140737488355328) (hbase : base ≤ w.heap.size)
    (h : ∀ a' c' w', Appd w w' base e size v (.slice a' (n + m) c') (n + m) (xs ++ news) → wpList P ops Q rest (a.put o.dst (.slice a' (n + m) c')) w') : wpList P ops Q (o :: rest) a w :=
  wpList_plain hgd fun K hK => by
    obtain ⟨v', w', hr, h2, a', c', rfl⟩ := run_append_full (P := P) w o.type base i z size bytes ht ht2 hi hz hsize hby hzs hsz v n xs hown A m c news hl hnews h1 hA h63 hbytes hbase
    unfold Oper.wp execOp
    simp only [ho, resolve, invoke, builtin, Sem.run_bind, Sem.run_pure, Result.andThen_ok, List.map_toArray, List.map_cons, List.map_nil, hs, hx, hr]
    exact hK _ _ (h a' c' w' h2)
theorem step_append_full {w : World} {ops : Array Oper} {o : Oper} {a : Act} {K : Act → World → Prop} {Q : Exit → Act → World → Prop} {E : Prop} (hgd : o.guard = none) (s x : Operand) {t t2 e : TypeId}
    (ho : o.op = .call { callee := .builtin .append, args := #[s, x], argTypes := #[t, t2] })
    (base : Nat) (i : TypeInfo) (z : Value) (size bytes : Nat) (ht : P.underlying t = some (.slice e)) (ht2 : P.underlying t2 = some (.slice e)) (hi : P.info? e = some i) (hz : i.zero = some z)
    (hsize : i.size = size) (hby : i.bytes = bytes) (hzs : z.cells.size = size) (hsz : 0 < size)
    (v : Value) (n : Nat) (xs : List Value) (hs : a.eval s = v) (hown : w.ownsRow base e size v n xs)
    (A : Option Addr) (m c : Nat) (news : List Value) (hx : a.eval x = .slice A m c) (hl : news.length = m * size) (hnews : ∀ j u, news[j]? = some u → ∃ ad, A = some ad ∧ w.cell? (ad.add j) = some u) (h1 : ∀ u ∈ news, u.oneCell' = true) (hA : A = none → c = 0)
    (h63 : n + m ≤ maxLen) (hbytes : (n + m) * bytes ≤ 140737488355328) (hbase : base ≤ w.heap.size)
    (h : ∀ a' c' w', Appd w w' base e size v (.slice a' (n + m) c') (n + m) (xs ++ news) → K (a.put o.dst (.slice a' (n + m) c')) w') :
    if Region.wanted o (yielded ops a.tmps) = true then Oper.wp P o a w K Q else E := by
  have hw : Region.wanted o (yielded ops a.tmps) = true := by simp [Region.wanted, hgd]
  rw [if_pos hw]
  obtain ⟨v', w', hr, h2, a', c', rfl⟩ := run_append_full (P := P) w o.type base i z size bytes ht ht2 hi hz hsize hby hzs hsz v n xs hown A m c news hl hnews h1 hA h63 hbytes hbase
  unfold Oper.wp execOp
  simp only [ho, resolve, invoke, builtin, Sem.run_bind, Sem.run_pure, Result.andThen_ok, List.map_toArray, List.map_cons, List.map_nil, hs, hx, hr]
  exact h a' c' w' h2
end
/-- A path under way, in the struct at block G: its verbs, its points, each in a row of its own. -/
structure JS (G : Nat) (vs : List Int) (ps : List Pnt) (w1 x : World) (va v : Value) : Prop where
  tb : TwoB G va v w1 x
  rv : x.ownsRow (G + 1) 3 1 va vs.length (vs.map iV)
  rp : x.ownsRow (G + 1) 44 2 v ps.length (flatP ps)
  ne : ∀ g, va.ownBlock = some g → v.ownBlock ≠ some g
theorem JS.alloc {G : Nat} {vs : List Int} {ps : List Pnt} {w1 x : World} {va v : Value} (h : JS G vs ps w1 x va v) (o : Obj) : JS G vs ps w1 (x.alloc o) va v :=
  ⟨h.tb.step ((Below.refl _ _).alloc h.tb.sz o), h.rv.alloc o, h.rp.alloc o, h.ne⟩
theorem JS.drew {G : Nat} {vs : List Int} {ps : List Pnt} {w1 x : World} {va v : Value} (h : JS G vs ps w1 x va v) : JS G vs ps w1 x.drew va v :=
  ⟨h.tb.drew, h.rv.drew, h.rp.drew, h.ne⟩
theorem JS.pushV {G : Nat} {vs news : List Int} {ps : List Pnt} {w1 x x' : World} {va va' v : Value} (h : JS G vs ps w1 x va v) {m : Nat} (hm : m = news.length)
    (a : Appd x x' (G + 1) 3 1 va va' (vs.length + m) (vs.map iV ++ news.map iV)) : JS G (vs ++ news) ps w1 (x'.setCell ⟨G, 0, none⟩ va') va' v := by
  subst hm
  have hb : Below (G + 1) x x' := (Below.refl _ _).grown a.grew h.tb.sz (ownsRow_ge h.rv)
  have hrow := a.row
  rw [← List.length_append, ← List.map_append] at hrow
  refine ⟨(h.tb.step hb).put0 va', ownsRow_set hrow 0 va', ownsRow_set (h.rp.kept a.grew ?_) 0 va', fun g hg => ?_⟩
  · cases hv : v.ownBlock with
    | none => exact .inl rfl
    | some g => exact .inr (fun k => h.ne g k.symm hv)
  · rcases a.own with k | k
    · exact h.ne g (k.symm.trans hg)
    · intro hv
      have hlt := (h.rp.lt g hv).2
      have : some g = some x.heap.size := hg.symm.trans k
      have := Option.some.inj this
      omega
theorem JS.pushP {G : Nat} {vs : List Int} {ps news : List Pnt} {w1 x x' : World} {va v v' : Value} (h : JS G vs ps w1 x va v) {m : Nat} (hm : m = news.length)
    (a : Appd x x' (G + 1) 44 2 v v' (ps.length + m) (flatP ps ++ flatP news)) : JS G vs (ps ++ news) w1 (x'.setCell ⟨G, 1, none⟩ v') va v' := by
  subst hm
  have hb : Below (G + 1) x x' := (Below.refl _ _).grown a.grew h.tb.sz (ownsRow_ge h.rp)
  have hrow := a.row
  have hf : flatP ps ++ flatP news = flatP (ps ++ news) := by unfold flatP; simp
  rw [← List.length_append, hf] at hrow
  refine ⟨(h.tb.step hb).put1 v', ownsRow_set (h.rv.kept a.grew ?_) 1 v', ownsRow_set hrow 1 v', fun g hg hv => ?_⟩
  · cases hv : va.ownBlock with
    | none => exact .inl rfl
    | some g => exact .inr (fun k => h.ne g hv k.symm)
  · rcases a.own with k | k
    · exact h.ne g hg (k.symm.trans hv)
    · have hlt := (h.rv.lt g hg).2
      have : some g = some x.heap.size := hv.symm.trans k
      have := Option.some.inj this
      omega
theorem JS.afterV {G : Nat} {vs : List Int} {ps : List Pnt} {w1 x x' : World} {va va' v : Value} {n : Nat} {xs : List Value} (h : JS G vs ps w1 x va v) (a : Appd x x' (G + 1) 3 1 va va' n xs) : TwoB G va v w1 x' :=
  h.tb.step ((Below.refl _ _).grown a.grew h.tb.sz (ownsRow_ge h.rv))
theorem JS.afterP {G : Nat} {vs : List Int} {ps : List Pnt} {w1 x x' : World} {va v v' : Value} {n : Nat} {xs : List Value} (h : JS G vs ps w1 x va v) (a : Appd x x' (G + 1) 44 2 v v' n xs) : TwoB G va v w1 x' :=
  h.tb.step ((Below.refl _ _).grown a.grew h.tb.sz (ownsRow_ge h.rp))
end Go.Proofs.YtjjklchfcklahaaDoor
