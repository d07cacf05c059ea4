import Derived.RowKit
import Derived.IntWalk
import Derived.Below
import Derived.Test.YtjjklchfcklahaaDoorProg
import Derived.WalkKit
import Derived.Deep.QuietTactic
import Derived.BigQuiet
import Derived.Laws.Externs
import Derived.Deep.RegionHeld3
import Derived.Deep.RegionWith
import Derived.Deep.DeepCutAuto
import Derived.Lib.Hide
import Derived.Shelf.Spec.BitsCarry
import Derived.Laws.World
/- Plain facts on numbers of 128 bits, told as two words. -/
namespace Go.Proofs.YtjjklchfcklahaaDoor
open Go.RowKit

/-- The high word (signed) and the low word of a number. -/
def hi (v : Int) : Int := (v / 18446744073709551616 + 9223372036854775808) % 18446744073709551616 - 9223372036854775808
def lo (v : Int) : Int := v % 18446744073709551616

/-- A wide number as the program's struct. -/
abbrev W (v : Int) : Value := .agg #[.int .i64 (hi v), .int .u64 (lo v)]

/-- In the range of 128 bits. -/
def In (v : Int) : Prop := -170141183460469231731687303715884105728 ≤ v ∧ v ≤ 170141183460469231731687303715884105727

theorem hi_mk (x y : Int) (hx : -9223372036854775808 ≤ x ∧ x ≤ 9223372036854775807) (hy : 0 ≤ y ∧ y ≤ 18446744073709551615) : hi (x * 18446744073709551616 + y) = x := by unfold hi; omega
theorem lo_mk (x y : Int) (hy : 0 ≤ y ∧ y ≤ 18446744073709551615) : lo (x * 18446744073709551616 + y) = y := by unfold lo; omega
theorem in_mk (x y : Int) (hx : -9223372036854775808 ≤ x ∧ x ≤ 9223372036854775807) (hy : 0 ≤ y ∧ y ≤ 18446744073709551615) : In (x * 18446744073709551616 + y) := by unfold In; omega
/-- Any two words are those of a number in range. -/
theorem mk (x y : Int) (hx : -9223372036854775808 ≤ x ∧ x ≤ 9223372036854775807) (hy : 0 ≤ y ∧ y ≤ 18446744073709551615) : ∃ v, In v ∧ x = hi v ∧ y = lo v :=
  ⟨_, in_mk x y hx hy, (hi_mk x y hx hy).symm, (lo_mk x y hy).symm⟩
theorem split_in (v : Int) (h : In v) : v = hi v * 18446744073709551616 + lo v := by unfold In at h; unfold hi lo; omega
theorem inj (a b : Int) (ha : In a) (hb : In b) (h1 : hi a = hi b) (h2 : lo a = lo b) : a = b := by
  rw [split_in a ha, split_in b hb, h1, h2]
/-! Cells that a region loads, beside calls that only make memory. -/
theorem keep2 {w0 wa w' : World} {p0 p1 : Addr} {u0 u1 : Value} (h : wa.cell? p0 = some u0 ∧ wa.cell? p1 = some u1 ∧ Below w0.heap.size w0 wa) (hb : Below wa.heap.size wa w') (h0 : p0.block < w0.heap.size) (h1 : p1.block < w0.heap.size) : w'.cell? p0 = some u0 ∧ w'.cell? p1 = some u1 ∧ Below w0.heap.size w0 w' :=
  ⟨(hb.cell (Nat.lt_of_lt_of_le h0 h.2.2.size)).trans h.1, (hb.cell (Nat.lt_of_lt_of_le h1 h.2.2.size)).trans h.2.1, h.2.2.trans (hb.mono h.2.2.size)⟩
theorem keep4 {w0 wa w' : World} {p0 p1 p2 p3 : Addr} {u0 u1 u2 u3 : Value} (h : wa.cell? p0 = some u0 ∧ wa.cell? p1 = some u1 ∧ wa.cell? p2 = some u2 ∧ wa.cell? p3 = some u3 ∧ Below w0.heap.size w0 wa) (hb : Below wa.heap.size wa w') (h0 : p0.block < w0.heap.size) (h1 : p1.block < w0.heap.size) (h2 : p2.block < w0.heap.size) (h3 : p3.block < w0.heap.size) : w'.cell? p0 = some u0 ∧ w'.cell? p1 = some u1 ∧ w'.cell? p2 = some u2 ∧ w'.cell? p3 = some u3 ∧ Below w0.heap.size w0 w' :=
  ⟨(hb.cell (Nat.lt_of_lt_of_le h0 h.2.2.2.2.size)).trans h.1, (hb.cell (Nat.lt_of_lt_of_le h1 h.2.2.2.2.size)).trans h.2.1, (hb.cell (Nat.lt_of_lt_of_le h2 h.2.2.2.2.size)).trans h.2.2.1, (hb.cell (Nat.lt_of_lt_of_le h3 h.2.2.2.2.size)).trans h.2.2.2.1, h.2.2.2.2.trans (hb.mono h.2.2.2.2.size)⟩
/-- A block of the call's own, n cells of it, whatever they hold: it may be written. -/
def OwnN (b n : Nat) (w : World) : Prop := ∀ i, i < n → (∃ x, w.cell? ⟨b, i, none⟩ = some x) ∧ w.frozen? ⟨b, i, none⟩ = false
theorem OwnN.below {b n : Nat} {w w' : World} (h : OwnN b n w) (hb : Below w.heap.size w w') (hl : b < w.heap.size) : OwnN b n w' := fun i hi => by
  obtain ⟨⟨x, hx⟩, hf⟩ := h i hi
  exact ⟨⟨x, (hb.cell (p := ⟨b, i, none⟩) hl).trans hx⟩, (hb.frozen (p := ⟨b, i, none⟩) hl).trans hf⟩
theorem OwnN.setCell {b n : Nat} {w : World} (h : OwnN b n w) (a : Addr) (v : Value) : OwnN b n (w.setCell a v) := fun i hi => by
  obtain ⟨⟨x, hx⟩, hf⟩ := h i hi
  exact ⟨cell?_setCell_some hx, by rw [World.frozen?_setCell]; exact hf⟩
theorem OwnN.two {b : Nat} {w : World} (h : OwnN b 2 w) : (∃ x, w.cell? ⟨b, 0, none⟩ = some x) ∧ w.frozen? ⟨b, 0, none⟩ = false ∧ (∃ x, w.cell? ⟨b, 1, none⟩ = some x) ∧ w.frozen? ⟨b, 1, none⟩ = false :=
  ⟨(h 0 (by omega)).1, (h 0 (by omega)).2, (h 1 (by omega)).1, (h 1 (by omega)).2⟩
theorem cell_far (w : World) (p a : Addr) (v : Value) (h : p.block ≠ a.block) : (w.setCell p v).cell? a = w.cell? a :=
  World.cell?_setCell_other w p a v (fun e => h (by rw [e]))
theorem keepA2 {w0 wa : World} {p0 p1 : Addr} {u0 u1 : Value} (h : wa.cell? p0 = some u0 ∧ wa.cell? p1 = some u1 ∧ Below w0.heap.size w0 wa) (o : Obj) (h0 : p0.block < w0.heap.size) (h1 : p1.block < w0.heap.size) : (wa.alloc o).cell? p0 = some u0 ∧ (wa.alloc o).cell? p1 = some u1 ∧ Below w0.heap.size w0 (wa.alloc o) :=
  ⟨(World.cell?_alloc_old _ _ _ (Nat.ne_of_lt (Nat.lt_of_lt_of_le h0 h.2.2.size))).trans h.1, (World.cell?_alloc_old _ _ _ (Nat.ne_of_lt (Nat.lt_of_lt_of_le h1 h.2.2.size))).trans h.2.1, h.2.2.alloc h.2.2.size _⟩
theorem belK2 {w0 wa : World} {p0 p1 : Addr} {u0 u1 : Value} (h : wa.cell? p0 = some u0 ∧ wa.cell? p1 = some u1 ∧ Below w0.heap.size w0 wa) : Below w0.heap.size w0 wa := h.2.2
theorem keepA4 {w0 wa : World} {p0 p1 p2 p3 : Addr} {u0 u1 u2 u3 : Value} (h : wa.cell? p0 = some u0 ∧ wa.cell? p1 = some u1 ∧ wa.cell? p2 = some u2 ∧ wa.cell? p3 = some u3 ∧ Below w0.heap.size w0 wa) (o : Obj) (h0 : p0.block < w0.heap.size) (h1 : p1.block < w0.heap.size) (h2 : p2.block < w0.heap.size) (h3 : p3.block < w0.heap.size) : (wa.alloc o).cell? p0 = some u0 ∧ (wa.alloc o).cell? p1 = some u1 ∧ (wa.alloc o).cell? p2 = some u2 ∧ (wa.alloc o).cell? p3 = some u3 ∧ Below w0.heap.size w0 (wa.alloc o) :=
  ⟨(World.cell?_alloc_old _ _ _ (Nat.ne_of_lt (Nat.lt_of_lt_of_le h0 h.2.2.2.2.size))).trans h.1, (World.cell?_alloc_old _ _ _ (Nat.ne_of_lt (Nat.lt_of_lt_of_le h1 h.2.2.2.2.size))).trans h.2.1, (World.cell?_alloc_old _ _ _ (Nat.ne_of_lt (Nat.lt_of_lt_of_le h2 h.2.2.2.2.size))).trans h.2.2.1, (World.cell?_alloc_old _ _ _ (Nat.ne_of_lt (Nat.lt_of_lt_of_le h3 h.2.2.2.2.size))).trans h.2.2.2.1, h.2.2.2.2.alloc h.2.2.2.2.size _⟩
theorem belK4 {w0 wa : World} {p0 p1 p2 p3 : Addr} {u0 u1 u2 u3 : Value} (h : wa.cell? p0 = some u0 ∧ wa.cell? p1 = some u1 ∧ wa.cell? p2 = some u2 ∧ wa.cell? p3 = some u3 ∧ Below w0.heap.size w0 wa) : Below w0.heap.size w0 wa := h.2.2.2.2
end Go.Proofs.YtjjklchfcklahaaDoor

/- What the program's own wide numbers answer: Of, Add, Sub, Cmp, Sign, Narrow. -/
namespace Go.Proofs.YtjjklchfcklahaaDoor
open Go.RowKit
set_option linter.unusedVariables false
set_option maxHeartbeats 400000

theorem below_dN {B : Nat} {a w : World} (h : Below B a w) (n : Nat) : Below B a (w.drewN n) := h.trans ⟨rfl, rfl, rfl, Nat.le_refl _, fun _ _ => rfl⟩

end Go.Proofs.YtjjklchfcklahaaDoor

/- More on what a region leaves. -/
namespace Go.Proofs.YtjjklchfcklahaaDoor
open Go.RowKit
/-- The world at hand, known by some facts alone. -/
theorem any_gen {P : World → Prop} {w : World} (S : World → Prop) (hS : S w) (h : ∀ z, S z → P z) : P w := h w hS
theorem next2 {w w0 wa : World} {p0 p1 : Addr} {u0 u1 : Value} (h : wa.cell? p0 = some u0 ∧ wa.cell? p1 = some u1 ∧ Below w0.heap.size w0 wa) (hs : w.heap.size ≤ w0.heap.size) (hb0 : Below w.heap.size w w0) : wa.cell? p0 = some u0 ∧ wa.cell? p1 = some u1 ∧ w0.heap.size ≤ wa.heap.size ∧ Below w.heap.size w wa :=
  ⟨h.1, h.2.1, h.2.2.size, hb0.trans (h.2.2.mono hs)⟩
theorem keepS2 {w0 wa : World} {p0 p1 : Addr} {u0 u1 : Value} (h : wa.cell? p0 = some u0 ∧ wa.cell? p1 = some u1 ∧ Below w0.heap.size w0 wa) (a : Addr) (v : Value) (ha : w0.heap.size ≤ a.block) (h0 : p0.block < w0.heap.size) (h1 : p1.block < w0.heap.size) : (wa.setCell a v).cell? p0 = some u0 ∧ (wa.setCell a v).cell? p1 = some u1 ∧ Below w0.heap.size w0 (wa.setCell a v) :=
  ⟨(cell_far _ _ _ _ (Nat.ne_of_gt (Nat.lt_of_lt_of_le h0 ha))).trans h.1, (cell_far _ _ _ _ (Nat.ne_of_gt (Nat.lt_of_lt_of_le h1 ha))).trans h.2.1, h.2.2.setCell ha _⟩
end Go.Proofs.YtjjklchfcklahaaDoor

/- Division bit by bit: plain facts. -/
namespace Go.Proofs.YtjjklchfcklahaaDoor.Bt

/-- After some rounds: of A the upper bits have been taken (their number is P), j are left (rest), which stand at the top of the two words H, L; P is Q times b, and R. -/
structure Inv (A b : Nat) (j : Nat) (H L R Q : Nat) : Prop where
  mk ::
  ex : ∃ P rest T : Nat, A = P * 2 ^ j + rest ∧ rest < 2 ^ j ∧ 2 ^ j * T = 340282366920938463463374607431768211456 ∧ H * 18446744073709551616 + L = rest * T ∧ P = Q * b + R
  rb : R < b
  lb : L < 18446744073709551616

theorem hbound {A b j H L R Q : Nat} (i : Inv A b j H L R Q) : H < 18446744073709551616 := by
  obtain ⟨P, rest, T, h1, h2, h3, h4, h5⟩ := i.ex
  have hT : 0 < T := by
    rcases Nat.eq_zero_or_pos T with h | h
    · subst h; omega
    · exact h
  have := Nat.mul_lt_mul_of_pos_right h2 hT
  omega

theorem mkM {A b j H L R Q : Nat} (M P rest T : Nat) (hM : 2 ^ j = M) (h1 : A = P * M + rest) (h2 : rest < M) (h3 : M * T = 340282366920938463463374607431768211456) (h4 : H * 18446744073709551616 + L = rest * T) (h5 : P = Q * b + R) (rb : R < b) (lb : L < 18446744073709551616) : Inv A b j H L R Q := by
  subst hM
  exact ⟨⟨P, rest, T, h1, h2, h3, h4, h5⟩, rb, lb⟩
theorem halves (L : Nat) (hL : L < 18446744073709551616) : ∃ c d : Nat, L / 9223372036854775808 = c ∧ L * 2 % 18446744073709551616 = 2 * d ∧ L = 9223372036854775808 * c + d ∧ c ≤ 1 ∧ d < 9223372036854775808 :=
  ⟨L / 9223372036854775808, L % 9223372036854775808, rfl, by omega, by omega, by omega, by omega⟩
theorem lin_hi (K c d X : Nat) (hX : (9223372036854775808 + K) * 18446744073709551616 + (9223372036854775808 * c + d) = X) :
    (K * 2 + c) * 18446744073709551616 + 2 * d + 340282366920938463463374607431768211456 = 2 * X := by
  subst hX
  rw [Nat.add_mul, Nat.add_mul]
  omega
theorem lin_lo (H c d X : Nat) (hX : H * 18446744073709551616 + (9223372036854775808 * c + d) = X) :
    (H * 2 + c) * 18446744073709551616 + 2 * d = 2 * X := by
  subst hX
  rw [Nat.add_mul]
  omega
theorem lin_sub (a b s : Nat) (h : a + 340282366920938463463374607431768211456 = 2 * b) (hs : s = b - 170141183460469231731687303715884105728) (hb : 170141183460469231731687303715884105728 ≤ b) : a = 2 * s := by
  obtain ⟨k, rfl⟩ : ∃ k, b = 170141183460469231731687303715884105728 + k := ⟨_, (Nat.add_sub_cancel' hb).symm⟩
  rw [Nat.add_sub_cancel_left] at hs
  subst hs
  rw [Nat.mul_add] at h
  omega
theorem words_hi (H L X : Nat) (hX : H * 18446744073709551616 + L = X) (hL : L < 18446744073709551616) (hb : H < 18446744073709551616) (h : 9223372036854775808 ≤ H) :
    (H * 2 + L / 9223372036854775808) % 18446744073709551616 * 18446744073709551616 + L * 2 % 18446744073709551616 + 340282366920938463463374607431768211456 = 2 * X := by
  obtain ⟨c, d, e1, e2, e3, e4, e5⟩ := halves L hL
  rw [e1, e2]
  obtain ⟨K, rfl⟩ : ∃ K, H = 9223372036854775808 + K := ⟨H - 9223372036854775808, by omega⟩
  have e6 : (9223372036854775808 + K) * 2 + c = (K * 2 + c) + 18446744073709551616 := by omega
  rw [e6, Nat.add_mod_right, Nat.mod_eq_of_lt (by omega)]
  subst e3
  exact lin_hi K c d X hX
theorem words_lo (H L X : Nat) (hX : H * 18446744073709551616 + L = X) (hL : L < 18446744073709551616) (h : H < 9223372036854775808) :
    (H * 2 + L / 9223372036854775808) % 18446744073709551616 * 18446744073709551616 + L * 2 % 18446744073709551616 = 2 * X := by
  obtain ⟨c, d, e1, e2, e3, e4, e5⟩ := halves L hL
  rw [e1, e2, Nat.mod_eq_of_lt (by omega)]
  subst e3
  exact lin_lo H c d X hX
/-- One bit more. -/
theorem step {A b j H L R Q : Nat} (i : Inv A b (j + 1) H L R Q) :
    ∃ bit : Nat, H / 9223372036854775808 = bit ∧ bit ≤ 1 ∧
      (R * 2 + bit < b → Inv A b j ((H * 2 + L / 9223372036854775808) % 18446744073709551616) (L * 2 % 18446744073709551616) (R * 2 + bit) (2 * Q)) ∧
      (b ≤ R * 2 + bit → Inv A b j ((H * 2 + L / 9223372036854775808) % 18446744073709551616) (L * 2 % 18446744073709551616) (R * 2 + bit - b) (2 * Q + 1)) := by
  have hH := hbound i
  obtain ⟨P, rest, T, h1, h2, h3, h4, h5⟩ := i.ex
  have rb := i.rb
  have lb := i.lb
  have e2 : 2 ^ (j + 1) = 2 * 2 ^ j := by rw [Nat.pow_succ]; omega
  rw [e2] at h1 h2 h3
  generalize hM : 2 ^ j = M at *
  have hMT : M * T = 170141183460469231731687303715884105728 := by rw [Nat.mul_assoc] at h3; omega
  have hMT2 : M * (2 * T) = 340282366920938463463374607431768211456 := by rw [Nat.mul_left_comm]; omega
  have hT : 0 < T := by
    rcases Nat.eq_zero_or_pos T with h | h
    · subst h; omega
    · exact h
  have hP2 : P * (2 * M) = 2 * P * M := by rw [Nat.mul_left_comm, Nat.mul_assoc]
  by_cases hr : M ≤ rest
  · have hge := Nat.mul_le_mul_right T hr
    have hlt : (rest - M) * T < M * T := Nat.mul_lt_mul_of_pos_right (by omega) hT
    have hsub : (rest - M) * T = rest * T - M * T := Nat.sub_mul _ _ _
    have hX : (rest - M) * (2 * T) = 2 * ((rest - M) * T) := Nat.mul_left_comm _ _ _
    have hW0 := words_hi H L _ h4 lb hH (by omega)
    have hW : (H * 2 + L / 9223372036854775808) % 18446744073709551616 * 18446744073709551616 + L * 2 % 18446744073709551616 = (rest - M) * (2 * T) := by rw [hX]; exact lin_sub _ _ _ hW0 (by rw [hsub, hMT]) (by rw [← hMT]; exact hge)
    refine ⟨1, by omega, by omega, fun hl => mkM M (2 * P + 1) (rest - M) (2 * T) hM ?_ (by omega) hMT2 hW ?_ (by omega) (by omega), fun hl => mkM M (2 * P + 1) (rest - M) (2 * T) hM ?_ (by omega) hMT2 hW ?_ (by omega) (by omega)⟩
    · rw [Nat.add_mul, Nat.one_mul, h1, hP2]; omega
    · rw [Nat.mul_assoc]; omega
    · rw [Nat.add_mul, Nat.one_mul, h1, hP2]; omega
    · rw [Nat.add_mul, Nat.mul_assoc]; omega
  · have hlt : rest * T < M * T := Nat.mul_lt_mul_of_pos_right (by omega) hT
    have hX : rest * (2 * T) = 2 * (rest * T) := Nat.mul_left_comm _ _ _
    have hW := words_lo H L _ h4 lb (by omega)
    rw [← hX] at hW
    refine ⟨0, by omega, by omega, fun hl => mkM M (2 * P) rest (2 * T) hM ?_ (by omega) hMT2 hW ?_ (by omega) (by omega), fun hl => mkM M (2 * P) rest (2 * T) hM ?_ (by omega) hMT2 hW ?_ (by omega) (by omega)⟩
    · rw [h1, hP2]
    · rw [Nat.mul_assoc]; omega
    · rw [h1, hP2]
    · rw [Nat.add_mul, Nat.mul_assoc]; omega

theorem done {A b H L R Q : Nat} (i : Inv A b 0 H L R Q) : A = Q * b + R ∧ R < b := by
  obtain ⟨P, rest, T, h1, h2, h3, h4, h5⟩ := i.ex
  have := i.rb
  simp at h1 h2
  omega
end Go.Proofs.YtjjklchfcklahaaDoor.Bt

/- What the document's own wide numbers answer: Div. -/
namespace Go.Proofs.YtjjklchfcklahaaDoor
open Go.RowKit
set_option linter.unusedVariables false
set_option linter.unusedSimpArgs false
set_option maxHeartbeats 2000000

/-- What the loop keeps: the quotient's box at block g, the result's at block t. -/
structure Keep (w : World) (g t : Nat) (Q : Int) (wr : World) : Prop where
  c0 : wr.cell? ⟨g, 0, none⟩ = some (.int .i64 (hi Q))
  c1 : wr.cell? ⟨g, 1, none⟩ = some (.int .u64 (lo Q))
  f0 : wr.frozen? ⟨g, 0, none⟩ = false
  f1 : wr.frozen? ⟨g, 1, none⟩ = false
  own : OwnN t 2 wr
  gl : g < wr.heap.size
  tl : t < wr.heap.size
  ne : g ≠ t
  gb : w.heap.size ≤ g
  tb : w.heap.size ≤ t
  bel : Below w.heap.size w wr
theorem Keep.step {w : World} {g t : Nat} {Q : Int} {x y : World} (k : Keep w g t Q x) (hb : Below x.heap.size x y) : Keep w g t Q y :=
  ⟨(hb.cell (p := ⟨g, 0, none⟩) k.gl).trans k.c0, (hb.cell (p := ⟨g, 1, none⟩) k.gl).trans k.c1, (hb.frozen (p := ⟨g, 0, none⟩) k.gl).trans k.f0, (hb.frozen (p := ⟨g, 1, none⟩) k.gl).trans k.f1,
    k.own.below hb k.tl, Nat.lt_of_lt_of_le k.gl hb.size, Nat.lt_of_lt_of_le k.tl hb.size, k.ne, k.gb, k.tb, k.bel.trans (hb.mono (by have := k.bel.size; omega))⟩
theorem Keep.put {w : World} {g t : Nat} {Q : Int} {x : World} (k : Keep w g t Q x) (Q' : Int) : Keep w g t Q' ((x.setCell ⟨g, 0, none⟩ (.int .i64 (hi Q'))).setCell ⟨g, 1, none⟩ (.int .u64 (lo Q'))) :=
  ⟨by rw [World.cell?_setCell_other _ _ _ _ (by simp)]; exact World.cell?_setCell_same _ _ _ k.c0, World.cell?_setCell_same _ _ _ ((World.cell?_setCell_other _ _ _ _ (by simp)).trans k.c1),
    by rw [World.frozen?_setCell, World.frozen?_setCell]; exact k.f0, by rw [World.frozen?_setCell, World.frozen?_setCell]; exact k.f1,
    (k.own.setCell _ _).setCell _ _, by simpa [World.setCell] using k.gl, by simpa [World.setCell] using k.tl, k.ne, k.gb, k.tb, (k.bel.setCell k.gb _).setCell k.gb _⟩
theorem Keep.drew {w : World} {g t : Nat} {Q : Int} {x : World} (k : Keep w g t Q x) : Keep w g t Q x.drew := ⟨k.c0, k.c1, k.f0, k.f1, k.own, k.gl, k.tl, k.ne, k.gb, k.tb, k.bel.drew⟩

end Go.Proofs.YtjjklchfcklahaaDoor

/- What the document's own divisions of layer 3 answer: narrow, Scale, Near, Floor, Round. -/
namespace Go.Proofs.YtjjklchfcklahaaDoor
open Go.RowKit
set_option linter.unusedVariables false
set_option linter.unusedSimpArgs false
set_option maxHeartbeats 2000000

/-- One box of a wide number, at block g, made behind w. -/
structure Box (w : World) (g : Nat) (Q : Int) (wr : World) : Prop where
  c0 : wr.cell? ⟨g, 0, none⟩ = some (.int .i64 (hi Q))
  c1 : wr.cell? ⟨g, 1, none⟩ = some (.int .u64 (lo Q))
  f0 : wr.frozen? ⟨g, 0, none⟩ = false
  f1 : wr.frozen? ⟨g, 1, none⟩ = false
  gl : g < wr.heap.size
  gb : w.heap.size ≤ g
  bel : Below w.heap.size w wr
theorem Box.step {w : World} {g : Nat} {Q : Int} {x y : World} (k : Box w g Q x) (hb : Below x.heap.size x y) : Box w g Q y :=
  ⟨(hb.cell (p := ⟨g, 0, none⟩) k.gl).trans k.c0, (hb.cell (p := ⟨g, 1, none⟩) k.gl).trans k.c1, (hb.frozen (p := ⟨g, 0, none⟩) k.gl).trans k.f0, (hb.frozen (p := ⟨g, 1, none⟩) k.gl).trans k.f1,
    Nat.lt_of_lt_of_le k.gl hb.size, k.gb, k.bel.trans (hb.mono (by have := k.bel.size; omega))⟩
theorem Box.put {w : World} {g : Nat} {Q : Int} {x : World} (k : Box w g Q x) (Q' : Int) : Box w g Q' ((x.setCell ⟨g, 0, none⟩ (.int .i64 (hi Q'))).setCell ⟨g, 1, none⟩ (.int .u64 (lo Q'))) :=
  ⟨by rw [World.cell?_setCell_other _ _ _ _ (by simp)]; exact World.cell?_setCell_same _ _ _ k.c0, World.cell?_setCell_same _ _ _ ((World.cell?_setCell_other _ _ _ _ (by simp)).trans k.c1),
    by rw [World.frozen?_setCell, World.frozen?_setCell]; exact k.f0, by rw [World.frozen?_setCell, World.frozen?_setCell]; exact k.f1,
    by simpa [World.setCell] using k.gl, k.gb, (k.bel.setCell k.gb _).setCell k.gb _⟩
theorem Box.drew {w : World} {g : Nat} {Q : Int} {x : World} (k : Box w g Q x) : Box w g Q x.drew := k.step (Below.refl _ _).drew

end Go.Proofs.YtjjklchfcklahaaDoor

/- Square roots, rounded down: plain facts. -/
namespace Go.Proofs.YtjjklchfcklahaaDoor

/-- The greatest number up to k whose square is n at most. -/
def isq (n : Nat) : Nat → Nat
  | 0 => 0
  | k + 1 => if (k + 1) * (k + 1) ≤ n then k + 1 else isq n k
def rt (n : Nat) : Nat := isq n n

theorem isq_le (n k : Nat) : isq n k * isq n k ≤ n := by
  induction k with
  | zero => simp [isq]
  | succ k ih => unfold isq; split <;> assumption
theorem sq_mono {a b : Nat} (h : a ≤ b) : a * a ≤ b * b := Nat.mul_le_mul h h
theorem isq_gt (n k : Nat) (h : n < (k + 1) * (k + 1)) : n < (isq n k + 1) * (isq n k + 1) := by
  induction k with
  | zero => simpa [isq] using h
  | succ k ih =>
    unfold isq
    split
    · exact h
    · rename_i g; exact ih (by omega)
theorem rt_spec (n : Nat) : rt n * rt n ≤ n ∧ n < (rt n + 1) * (rt n + 1) :=
  ⟨isq_le n n, isq_gt n n (by have := Nat.le_mul_of_pos_right (n + 1) (show 0 < n + 1 by omega); omega)⟩
theorem rt_unique (n r : Nat) (h1 : r * r ≤ n) (h2 : n < (r + 1) * (r + 1)) : r = rt n := by
  have s := rt_spec n
  have a : r ≤ rt n := by
    refine Nat.le_of_not_lt (fun g => ?_)
    have := sq_mono (show rt n + 1 ≤ r by omega)
    omega
  have b : rt n ≤ r := by
    refine Nat.le_of_not_lt (fun g => ?_)
    have := sq_mono (show r + 1 ≤ rt n by omega)
    omega
  omega
end Go.Proofs.YtjjklchfcklahaaDoor

/- What the document's own roots answer. -/
namespace Go.Proofs.YtjjklchfcklahaaDoor
open Go.RowKit
set_option linter.unusedVariables false
set_option linter.unusedSimpArgs false
set_option maxHeartbeats 2000000

/-- What upTo keeps: the number a in its box, mid at g7, the square so far, S, at g8. -/
structure Sq (w : World) (a mid : Int) (g7 g8 : Nat) (S : Int) (wr : World) : Prop where
  c0 : wr.cell? ⟨w.heap.size, 0, none⟩ = some (.int .i64 (hi a))
  c1 : wr.cell? ⟨w.heap.size, 1, none⟩ = some (.int .u64 (lo a))
  d0 : wr.cell? ⟨g7, 0, none⟩ = some (.int .i64 (hi mid))
  d1 : wr.cell? ⟨g7, 1, none⟩ = some (.int .u64 (lo mid))
  e0 : wr.cell? ⟨g8, 0, none⟩ = some (.int .i64 (hi S))
  e1 : wr.cell? ⟨g8, 1, none⟩ = some (.int .u64 (lo S))
  f0 : wr.frozen? ⟨g8, 0, none⟩ = false
  f1 : wr.frozen? ⟨g8, 1, none⟩ = false
  l0 : w.heap.size < wr.heap.size
  l7 : g7 < wr.heap.size
  l8 : g8 < wr.heap.size
  n0 : g8 ≠ w.heap.size
  n7 : g8 ≠ g7
  gb : w.heap.size ≤ g8
  bel : Below w.heap.size w wr
theorem Sq.step {w : World} {a mid : Int} {g7 g8 : Nat} {S : Int} {x y : World} (k : Sq w a mid g7 g8 S x) (hb : Below x.heap.size x y) : Sq w a mid g7 g8 S y :=
  ⟨(hb.cell (p := ⟨w.heap.size, 0, none⟩) k.l0).trans k.c0, (hb.cell (p := ⟨w.heap.size, 1, none⟩) k.l0).trans k.c1, (hb.cell (p := ⟨g7, 0, none⟩) k.l7).trans k.d0, (hb.cell (p := ⟨g7, 1, none⟩) k.l7).trans k.d1,
    (hb.cell (p := ⟨g8, 0, none⟩) k.l8).trans k.e0, (hb.cell (p := ⟨g8, 1, none⟩) k.l8).trans k.e1, (hb.frozen (p := ⟨g8, 0, none⟩) k.l8).trans k.f0, (hb.frozen (p := ⟨g8, 1, none⟩) k.l8).trans k.f1,
    Nat.lt_of_lt_of_le k.l0 hb.size, Nat.lt_of_lt_of_le k.l7 hb.size, Nat.lt_of_lt_of_le k.l8 hb.size, k.n0, k.n7, k.gb, k.bel.trans (hb.mono (Nat.le_of_lt k.l0))⟩
theorem Sq.put {w : World} {a mid : Int} {g7 g8 : Nat} {S : Int} {x : World} (k : Sq w a mid g7 g8 S x) (S' : Int) : Sq w a mid g7 g8 S' ((x.setCell ⟨g8, 0, none⟩ (.int .i64 (hi S'))).setCell ⟨g8, 1, none⟩ (.int .u64 (lo S'))) :=
  ⟨(cell_far _ _ _ _ k.n0).trans ((cell_far _ _ _ _ k.n0).trans k.c0), (cell_far _ _ _ _ k.n0).trans ((cell_far _ _ _ _ k.n0).trans k.c1), (cell_far _ _ _ _ k.n7).trans ((cell_far _ _ _ _ k.n7).trans k.d0), (cell_far _ _ _ _ k.n7).trans ((cell_far _ _ _ _ k.n7).trans k.d1),
    by rw [World.cell?_setCell_other _ _ _ _ (by simp)]; exact World.cell?_setCell_same _ _ _ k.e0, World.cell?_setCell_same _ _ _ ((World.cell?_setCell_other _ _ _ _ (by simp)).trans k.e1),
    by rw [World.frozen?_setCell, World.frozen?_setCell]; exact k.f0, by rw [World.frozen?_setCell, World.frozen?_setCell]; exact k.f1,
    by simpa [World.setCell] using k.l0, by simpa [World.setCell] using k.l7, by simpa [World.setCell] using k.l8, k.n0, k.n7, k.gb, (k.bel.setCell k.gb _).setCell k.gb _⟩
theorem Sq.drew {w : World} {a mid : Int} {g7 g8 : Nat} {S : Int} {x : World} (k : Sq w a mid g7 g8 S x) : Sq w a mid g7 g8 S x.drew := k.step (Below.refl _ _).drew

end Go.Proofs.YtjjklchfcklahaaDoor

/- What the document's own roots answer: Long, Sqrt, Square. -/
namespace Go.Proofs.YtjjklchfcklahaaDoor
open Go.RowKit
set_option linter.unusedVariables false
set_option linter.unusedSimpArgs false
set_option maxHeartbeats 2000000

/-- What a root's bits come to: x² is A at most, and A is below the square of x and 2^k. -/
structure Bits (A k x : Nat) : Prop where
  le : x * x ≤ A
  gt : A < (x + 2 ^ k) * (x + 2 ^ k)
  bd : x + 2 ^ k ≤ 18446744073709551616
theorem Bits.done {A x : Nat} (b : Bits A 0 x) : x = rt A := rt_unique A x b.le b.gt
end Go.Proofs.YtjjklchfcklahaaDoor

/- What the document's own vectors answer. -/
namespace Go.Proofs.YtjjklchfcklahaaDoor
open Go.RowKit
set_option linter.unusedVariables false
set_option linter.unusedSimpArgs false
set_option maxHeartbeats 2000000

/-- A point as the program's struct. -/
abbrev P2 (x y : Int) : Value := .agg #[.int .i64 x, .int .i64 y]
end Go.Proofs.YtjjklchfcklahaaDoor

/- Corners that go round: edges, areas, what is convex. No program. -/
namespace Go.Proofs.YtjjklchfcklahaaDoor
set_option linter.unusedVariables false
set_option linter.unusedSimpArgs false
set_option maxHeartbeats 2000000

abbrev Pnt := Int × Int
/-! What is shifted. -/
/-! The sides by their places. -/
end Go.Proofs.YtjjklchfcklahaaDoor

/- Slices of corners, from wherever they come: what they hold, and what the laws' bounded answers of them. -/
namespace Go.Proofs.YtjjklchfcklahaaDoor
open Go.RowKit
set_option linter.unusedVariables false
set_option linter.unusedSimpArgs false
set_option maxHeartbeats 4000000
set_option maxRecDepth 100000

theorem block_add (a : Addr) (n : Nat) : (a.add n).block = a.block := by unfold Addr.add; split <;> rfl
theorem add_add (a : Addr) (i j : Nat) : (a.add i).add j = a.add (i + j) := by
  unfold Addr.add
  by_cases hi : i = 0 <;> by_cases hj : j = 0 <;> simp [hi, hj, Nat.add_assoc]
/-- The slice at A holds these corners, all below block B. -/
def Cor (w : World) (B : Nat) (A : Option Addr) (l : List Pnt) : Prop :=
  0 < l.length → ∃ ad, A = some ad ∧ ad.block < B ∧ ∀ (i : Nat) (p : Pnt), l[i]? = some p → w.cell? (ad.add (i * 2)) = some (.int .i64 p.1) ∧ w.cell? ⟨(ad.add (i * 2)).block, (ad.add (i * 2)).off + 1, none⟩ = some (.int .i64 p.2)
theorem Cor.step {w w' : World} {B : Nat} {A : Option Addr} {l : List Pnt} (h : Cor w B A l) (hb : Below B w w') : Cor w' B A l := fun hn => by
  obtain ⟨ad, e, hB, hc⟩ := h hn
  exact ⟨ad, e, hB, fun i p hp => ⟨(hb.cell (by rw [block_add]; exact hB)).trans (hc i p hp).1, (hb.cell (p := ⟨(ad.add (i * 2)).block, (ad.add (i * 2)).off + 1, none⟩) (show (ad.add (i * 2)).block < B by rw [block_add]; exact hB)).trans (hc i p hp).2⟩⟩
theorem Cor.more {w : World} {B B' : Nat} {A : Option Addr} {l : List Pnt} (h : Cor w B A l) (hB : B ≤ B') : Cor w B' A l := fun hn => by
  obtain ⟨ad, e, h1, hc⟩ := h hn
  exact ⟨ad, e, by omega, hc⟩
theorem Cor.at_ {w : World} {B : Nat} {A : Option Addr} {l : List Pnt} (h : Cor w B A l) {i : Nat} {p : Pnt} (hp : l[i]? = some p) :
    ∃ ad, A = some ad ∧ ad.block < B ∧ w.cell? (ad.add (i * 2)) = some (.int .i64 p.1) ∧ w.cell? ⟨(ad.add (i * 2)).block, (ad.add (i * 2)).off + 1, none⟩ = some (.int .i64 p.2) := by
  have hi := (List.getElem?_eq_some_iff.1 hp).1
  obtain ⟨ad, e, hB, hc⟩ := h (by omega)
  exact ⟨ad, e, hB, hc i p hp⟩
end Go.Proofs.YtjjklchfcklahaaDoor
