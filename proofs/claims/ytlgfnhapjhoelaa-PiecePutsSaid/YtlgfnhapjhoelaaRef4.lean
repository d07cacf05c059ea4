/- What the document's own vectors answer. -/
import Derived.Test.YtlgfnhapjhoelaaRef3
import Derived.Test.YtlgfnhapjhoelaaRef2B
namespace Go.Proofs.Ytlgfnhapjhoelaa
open Go.RowKit
set_option linter.unusedVariables false
set_option linter.unusedSimpArgs false
set_option maxHeartbeats 2000000

/-- A point as the program's struct. -/
abbrev P2 (x y : Int) : Value := .agg #[.int .i64 x, .int .i64 y]
/-- A point is near. -/
def nearB (x y : Int) : Bool := decide (-1073741824 ≤ x ∧ x ≤ 1073741824 ∧ -1073741824 ≤ y ∧ y ≤ 1073741824)
theorem nearB_iff {x y : Int} : nearB x y = true ↔ (-1073741824 ≤ x ∧ x ≤ 1073741824) ∧ (-1073741824 ≤ y ∧ y ≤ 1073741824) := by
  unfold nearB; simp; omega
/-- Products of near numbers. -/
theorem prod_near (a b A B : Int) (ha : -A ≤ a ∧ a ≤ A) (hb : -B ≤ b ∧ b ≤ B) (hA : 0 ≤ A) (hB : 0 ≤ B) : -(A * B) ≤ a * b ∧ a * b ≤ A * B := by
  have h1 : (a * b).natAbs = a.natAbs * b.natAbs := Int.natAbs_mul a b
  have h2 := Nat.mul_le_mul (show a.natAbs ≤ A.toNat by omega) (show b.natAbs ≤ B.toNat by omega)
  rw [← h1] at h2
  have h3 : ((A.toNat * B.toNat : Nat) : Int) = A * B := by rw [Int.natCast_mul, Int.toNat_of_nonneg hA, Int.toNat_of_nonneg hB]
  generalize a * b = p at *
  generalize A * B = q at *
  generalize A.toNat * B.toNat = r at *
  omega
theorem prod_30 (a b : Int) (ha : -1073741824 ≤ a ∧ a ≤ 1073741824) (hb : -1073741824 ≤ b ∧ b ≤ 1073741824) : -1152921504606846976 ≤ a * b ∧ a * b ≤ 1152921504606846976 :=
  prod_near a b 1073741824 1073741824 ha hb (by omega) (by omega)
theorem r4near_any (x y : Int) (w : World) :
    Calls Try.prog 28 #[P2 x y] w fun e w' => e = .returned (.bool (nearB x y)) ∧ Below w.heap.size w w' := by
  obtain ⟨b, hb⟩ : ∃ b, nearB x y = b := ⟨_, rfl⟩
  rw [hb]
  have HB := Lib.hid hb
  by_cases h1 : -1073741824 ≤ x
  · by_cases h2 : x ≤ 1073741824
    · by_cases h3 : -1073741824 ≤ y
      · by_cases h4 : y ≤ 1073741824
        all_goals
          have FIN := Lib.hid (show decide (y ≤ 1073741824) = b by rw [← hb]; unfold nearB; rw [decide_eq_decide]; omega)
          clear hb
          go_enter Try.func28, Try.ntmps28
          go_wp2
          go_ret
          exact ⟨by rw [← FIN.out]; simp [*], (Below.refl _ _).alloc (by simp) _⟩
      · have FIN := Lib.hid (show false = b by rw [← hb]; unfold nearB; simp; omega)
        clear hb
        go_enter Try.func28, Try.ntmps28
        go_wp2
        go_ret
        exact ⟨by rw [← FIN.out]; rfl, (Below.refl _ _).alloc (by simp) _⟩
    · have FIN := Lib.hid (show false = b by rw [← hb]; unfold nearB; simp; omega)
      clear hb
      go_enter Try.func28, Try.ntmps28
      go_wp2
      go_ret
      exact ⟨by rw [← FIN.out]; rfl, (Below.refl _ _).alloc (by simp) _⟩
  · have FIN := Lib.hid (show false = b by rw [← hb]; unfold nearB; simp; omega)
    clear hb
    go_enter Try.func28, Try.ntmps28
    go_wp2
    go_ret
    exact ⟨by rw [← FIN.out]; rfl, (Below.refl _ _).alloc (by simp) _⟩

theorem r4add_any (x y u v : Int) (w : World) (hx : -2147483648 ≤ x ∧ x ≤ 2147483648) (hy : -2147483648 ≤ y ∧ y ≤ 2147483648) (hu : -2147483648 ≤ u ∧ u ≤ 2147483648) (hv : -2147483648 ≤ v ∧ v ≤ 2147483648) :
    Calls Try.prog 34 #[P2 x y, P2 u v] w fun e w' => e = .returned (P2 (x + u) (y + v)) ∧ Below w.heap.size w w' := by
  go_enter Try.func34, Try.ntmps34
  go_wp2
  refine bodyPost_ret (by simp [results, Try.results34, go_sem] <;> rfl) rfl ⟨?_, ?_⟩
  · rfl
  · repeat (first | exact Below.refl _ _ | refine Below.setCell ?_ (by simp; try omega) _ | refine Below.alloc ?_ (by simp; try omega) _)

theorem r4sub_any (x y u v : Int) (w : World) (hx : -2147483648 ≤ x ∧ x ≤ 2147483648) (hy : -2147483648 ≤ y ∧ y ≤ 2147483648) (hu : -2147483648 ≤ u ∧ u ≤ 2147483648) (hv : -2147483648 ≤ v ∧ v ≤ 2147483648) :
    Calls Try.prog 38 #[P2 x y, P2 u v] w fun e w' => e = .returned (P2 (x - u) (y - v)) ∧ Below w.heap.size w w' := by
  go_enter Try.func38, Try.ntmps38
  go_wp2
  refine bodyPost_ret (by simp [results, Try.results38, go_sem] <;> rfl) rfl ⟨?_, ?_⟩
  · rfl
  · repeat (first | exact Below.refl _ _ | refine Below.setCell ?_ (by simp; try omega) _ | refine Below.alloc ?_ (by simp; try omega) _)

theorem r4cross_any (x y u v : Int) (w : World) (hx : -1073741824 ≤ x ∧ x ≤ 1073741824) (hy : -1073741824 ≤ y ∧ y ≤ 1073741824) (hu : -1073741824 ≤ u ∧ u ≤ 1073741824) (hv : -1073741824 ≤ v ∧ v ≤ 1073741824) :
    Calls Try.prog 31 #[P2 x y, P2 u v] w fun e w' => e = .returned (.int .i64 (x * v - y * u)) ∧ Below w.heap.size w w' := by
  have p1 := prod_30 x v hx hv
  have p2 := prod_30 y u hy hu
  obtain ⟨p, hp⟩ : ∃ p, x * v = p := ⟨_, rfl⟩
  obtain ⟨q, hq⟩ : ∃ q, y * u = q := ⟨_, rfl⟩
  rw [hp, hq]
  rw [hp] at p1
  rw [hq] at p2
  have e1 : IntKind.i64.wrap p = p := IntWalk.i64_in _ (by omega)
  have e2 : IntKind.i64.wrap q = q := IntWalk.i64_in _ (by omega)
  have e3 : IntKind.i64.wrap (p - q) = p - q := IntWalk.i64_in _ (by omega)
  go_enter Try.func31, Try.ntmps31
  go_wp2
  go_ret
  exact ⟨rfl, by repeat (first | exact Below.refl _ _ | refine Below.setCell ?_ (by simp; try omega) _ | refine Below.alloc ?_ (by simp; try omega) _)⟩

end Go.Proofs.Ytlgfnhapjhoelaa
