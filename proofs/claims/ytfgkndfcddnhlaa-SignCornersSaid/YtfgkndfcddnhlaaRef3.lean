/- What the document's own divisions of layer 3 answer: narrow, Scale, Near, Floor, Round. -/
import Derived.Test.YtfgkndfcddnhlaaRefB
import Derived.Test.YtfgkndfcddnhlaaRefC
namespace Go.Proofs.Ytfgkndfcddnhlaa
open Go.RowKit
set_option linter.unusedVariables false
set_option linter.unusedSimpArgs false
set_option maxHeartbeats 2000000

/-- One box of a wide number, at block g, made behind w. -/
structure Box (w : World) (g : Nat) (Q : Int) (wr : World) : Prop where
  c0 : wr.cell? ⟨g, 0, none⟩ = some (.int .i64 (hi Q))
  c1 : wr.cell? ⟨g, 1, none⟩ = some (.int .u64 (lo Q))
  f0 : wr.frozen? ⟨g, 0, none⟩ = false
  f1 : wr.frozen? ⟨g, 1, none⟩ = false
  gl : g < wr.heap.size
  gb : w.heap.size ≤ g
  bel : Below w.heap.size w wr
theorem Box.step {w : World} {g : Nat} {Q : Int} {x y : World} (k : Box w g Q x) (hb : Below x.heap.size x y) : Box w g Q y :=
  ⟨(hb.cell (p := ⟨g, 0, none⟩) k.gl).trans k.c0, (hb.cell (p := ⟨g, 1, none⟩) k.gl).trans k.c1, (hb.frozen (p := ⟨g, 0, none⟩) k.gl).trans k.f0, (hb.frozen (p := ⟨g, 1, none⟩) k.gl).trans k.f1,
    Nat.lt_of_lt_of_le k.gl hb.size, k.gb, k.bel.trans (hb.mono (by have := k.bel.size; omega))⟩
theorem Box.put {w : World} {g : Nat} {Q : Int} {x : World} (k : Box w g Q x) (Q' : Int) : Box w g Q' ((x.setCell ⟨g, 0, none⟩ (.int .i64 (hi Q'))).setCell ⟨g, 1, none⟩ (.int .u64 (lo Q'))) :=
  ⟨by rw [World.cell?_setCell_other _ _ _ _ (by simp)]; exact World.cell?_setCell_same _ _ _ k.c0, World.cell?_setCell_same _ _ _ ((World.cell?_setCell_other _ _ _ _ (by simp)).trans k.c1),
    by rw [World.frozen?_setCell, World.frozen?_setCell]; exact k.f0, by rw [World.frozen?_setCell, World.frozen?_setCell]; exact k.f1,
    by simpa [World.setCell] using k.gl, k.gb, (k.bel.setCell k.gb _).setCell k.gb _⟩
theorem Box.drew {w : World} {g : Nat} {Q : Int} {x : World} (k : Box w g Q x) : Box w g Q x.drew := k.step (Below.refl _ _).drew

/-- What a number that may be too wide is told as: itself, or ErrFull. -/
def full (a : Int) : Value := if -9223372036854775808 ≤ a ∧ a ≤ 9223372036854775807 then .tuple #[.int .i64 a, .int .i64 0] else .tuple #[.int .i64 0, .int .i64 2]
theorem full_yes {a : Int} (h : -9223372036854775808 ≤ a ∧ a ≤ 9223372036854775807) : full a = .tuple #[.int .i64 a, .int .i64 0] := by unfold full; rw [if_pos h]
theorem full_no {a : Int} (h : ¬ (-9223372036854775808 ≤ a ∧ a ≤ 9223372036854775807)) : full a = .tuple #[.int .i64 0, .int .i64 2] := by unfold full; rw [if_neg h]
theorem narrowV_yes {a : Int} (h : -9223372036854775808 ≤ a ∧ a ≤ 9223372036854775807) : narrowV a = .tuple #[.int .i64 a, .bool true] := by unfold narrowV; rw [if_pos h]
theorem narrowV_no {a : Int} (h : ¬ (-9223372036854775808 ≤ a ∧ a ≤ 9223372036854775807)) : narrowV a = .tuple #[.int .i64 0, .bool false] := by unfold narrowV; rw [if_neg h]
/-- full's two parts. -/
theorem full_parts (a : Int) : ∃ n e, full a = .tuple #[.int .i64 n, .int .i64 e] := by
  unfold full; split
  · exact ⟨_, _, rfl⟩
  · exact ⟨_, _, rfl⟩

/-- What Scale tells; Floor is this of a times 1. -/
def scaleV (a b c : Int) : Value := if c ≤ 0 then .tuple #[.int .i64 0, .int .i64 1] else full (a * b / c)
/-- The nearest number to x / c. -/
def nearQ (x c : Int) : Int := if c - x % c ≤ x % c then x / c + 1 else x / c
/-- What Near tells. -/
def nearV (a b c : Int) : Value := if c ≤ 0 then .tuple #[.int .i64 0, .int .i64 1] else full (nearQ (a * b) c)

theorem scaleV_parts (a b c : Int) : ∃ n e, scaleV a b c = .tuple #[.int .i64 n, .int .i64 e] := by
  unfold scaleV; split
  · exact ⟨_, _, rfl⟩
  · exact full_parts _
theorem nearV_parts (a b c : Int) : ∃ n e, nearV a b c = .tuple #[.int .i64 n, .int .i64 e] := by
  unfold nearV; split
  · exact ⟨_, _, rfl⟩
  · exact full_parts _

/-- A product of two words is well within the wide numbers' range. -/
theorem prod_bd (a b : Int) (ha : -9223372036854775808 ≤ a ∧ a ≤ 9223372036854775807) (hb : -9223372036854775808 ≤ b ∧ b ≤ 9223372036854775807) :
    -85070591730234615865843651857942052864 ≤ a * b ∧ a * b ≤ 85070591730234615865843651857942052864 := by
  have h1 : a.natAbs ≤ 9223372036854775808 := by omega
  have h2 : b.natAbs ≤ 9223372036854775808 := by omega
  have h3 := Nat.mul_le_mul h1 h2
  rw [← Int.natAbs_mul] at h3
  obtain ⟨p, hp⟩ : ∃ p, a * b = p := ⟨_, rfl⟩
  rw [hp] at h3 ⊢
  omega
theorem quot_bd (x c : Int) (hc : 1 ≤ c) (hx : -85070591730234615865843651857942052864 ≤ x ∧ x ≤ 85070591730234615865843651857942052864) :
    -85070591730234615865843651857942052864 ≤ x / c ∧ x / c ≤ 85070591730234615865843651857942052864 := by
  have h1 : (x / c).natAbs ≤ x.natAbs := Int.natAbs_ediv_le_natAbs _ _
  omega
theorem prod_in (a b : Int) (ha : -9223372036854775808 ≤ a ∧ a ≤ 9223372036854775807) (hb : -9223372036854775808 ≤ b ∧ b ≤ 9223372036854775807) : In (a * b) := by
  have := prod_bd a b ha hb
  unfold In; omega
theorem quot_in (a b c : Int) (hc : 1 ≤ c) (ha : -9223372036854775808 ≤ a ∧ a ≤ 9223372036854775807) (hb : -9223372036854775808 ≤ b ∧ b ≤ 9223372036854775807) : In (a * b / c) ∧ In (a * b / c + 1) := by
  have := quot_bd _ c hc (prod_bd a b ha hb)
  unfold In; omega

theorem near_lt (x c : Int) (hc : 1 ≤ c) : 0 ≤ x % c ∧ x % c < c := ⟨Int.emod_nonneg _ (by omega), Int.emod_lt_of_pos _ (by omega)⟩

end Go.Proofs.Ytfgkndfcddnhlaa
