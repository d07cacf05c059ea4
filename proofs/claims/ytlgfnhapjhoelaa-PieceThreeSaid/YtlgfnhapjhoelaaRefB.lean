/- What the document's own wide numbers answer: Narrow, Mul. -/
import Derived.Test.YtlgfnhapjhoelaaRefA
namespace Go.Proofs.Ytlgfnhapjhoelaa
open Go.RowKit
set_option linter.unusedVariables false
set_option maxHeartbeats 1000000

theorem radd_at (a b x1 x2 y1 y2 : Int) (w : World) (h1 : x1 = hi a) (h2 : x2 = lo a) (h3 : y1 = hi b) (h4 : y2 = lo b) :
    Calls Try.prog 47 #[.agg #[.int .i64 x1, .int .u64 x2], .agg #[.int .i64 y1, .int .u64 y2]] w fun e w' => e = .returned (W (a + b)) ∧ Below w.heap.size w w' := by
  subst h1 h2 h3 h4
  exact radd_any a b w

theorem halves_mul (X Y p q r s : Int) (hp : X / 4294967296 = p) (hq : X % 4294967296 = q) (hr : Y / 4294967296 = r) (hs : Y % 4294967296 = s) :
    p * r * 18446744073709551616 + q * s + p * s * 4294967296 + q * r * 4294967296 = X * Y := by
  have e1 : X = p * 4294967296 + q := by omega
  have e2 : Y = r * 4294967296 + s := by omega
  rw [e1, e2, Int.add_mul, Int.mul_add, Int.mul_add]
  have f1 : p * 4294967296 * (r * 4294967296) = p * r * 18446744073709551616 := by
    rw [Int.mul_assoc, Int.mul_left_comm 4294967296, ← Int.mul_assoc p r, show (4294967296 : Int) * 4294967296 = 18446744073709551616 from rfl]
  have f2 : p * 4294967296 * s = p * s * 4294967296 := Int.mul_right_comm _ _ _
  have f3 : q * (r * 4294967296) = q * r * 4294967296 := (Int.mul_assoc _ _ _).symm
  rw [f1, f2, f3]
  omega
theorem mul_bd (a b A B : Int) (ha : 0 ≤ a ∧ a ≤ A) (hb : 0 ≤ b ∧ b ≤ B) : 0 ≤ a * b ∧ a * b ≤ A * B :=
  ⟨Int.mul_nonneg ha.1 hb.1, Int.le_trans (Int.mul_le_mul_of_nonneg_right ha.2 hb.1) (Int.mul_le_mul_of_nonneg_left hb.2 (by omega))⟩

theorem mulS {w z z' : World} {m : Nat} {N : Int} (h : z.cell? ⟨m, 0, none⟩ = some (.int .i64 (hi N)) ∧ z.cell? ⟨m, 1, none⟩ = some (.int .u64 (lo N)) ∧ z.frozen? ⟨m, 0, none⟩ = false ∧ z.frozen? ⟨m, 1, none⟩ = false ∧ OwnN w.heap.size 2 z ∧ (m < z.heap.size ∧ w.heap.size < m) ∧ Below w.heap.size w z) (hb : Below z.heap.size z z') : z'.cell? ⟨m, 0, none⟩ = some (.int .i64 (hi N)) ∧ z'.cell? ⟨m, 1, none⟩ = some (.int .u64 (lo N)) ∧ z'.frozen? ⟨m, 0, none⟩ = false ∧ z'.frozen? ⟨m, 1, none⟩ = false ∧ OwnN w.heap.size 2 z' ∧ (m < z'.heap.size ∧ w.heap.size < m) ∧ Below w.heap.size w z' :=
  ⟨(hb.cell (p := ⟨m, 0, none⟩) h.2.2.2.2.2.1.1).trans h.1, (hb.cell (p := ⟨m, 1, none⟩) h.2.2.2.2.2.1.1).trans h.2.1, (hb.frozen (p := ⟨m, 0, none⟩) h.2.2.2.2.2.1.1).trans h.2.2.1, (hb.frozen (p := ⟨m, 1, none⟩) h.2.2.2.2.2.1.1).trans h.2.2.2.1,
    h.2.2.2.2.1.below hb (by omega), ⟨Nat.lt_of_lt_of_le h.2.2.2.2.2.1.1 hb.size, h.2.2.2.2.2.1.2⟩, h.2.2.2.2.2.2.trans (hb.mono (by omega))⟩

theorem rmul_pp (a b X Y p q r s : Int) (w : World) (ha : -9223372036854775808 ≤ a ∧ a ≤ 9223372036854775807) (hb : -9223372036854775808 ≤ b ∧ b ≤ 9223372036854775807)
    (c1 : 0 ≤ a) (c2 : 0 ≤ b) (eX : IntKind.u64.wrap a = X) (eY : IntKind.u64.wrap b = Y) (bX : 0 ≤ X ∧ X ≤ 9223372036854775808) (bY : 0 ≤ Y ∧ Y ≤ 9223372036854775808)
    (hp : X / 4294967296 = p) (hq : X % 4294967296 = q) (hr : Y / 4294967296 = r) (hs' : Y % 4294967296 = s) :
    Calls Try.prog 40 #[.int .i64 a, .int .i64 b] w fun e w' => e = .returned (W (X * Y)) ∧ Below w.heap.size w w' := by
  have bp : 0 ≤ p ∧ p ≤ 2147483648 := by omega
  have bq : 0 ≤ q ∧ q ≤ 4294967295 := by omega
  have br : 0 ≤ r ∧ r ≤ 2147483648 := by omega
  have bs : 0 ≤ s ∧ s ≤ 4294967295 := by omega
  have pr := mul_bd p r _ _ bp br
  have ps := mul_bd p s _ _ bp bs
  have qr := mul_bd q r _ _ bq br
  have qs := mul_bd q s _ _ bq bs
  have w1 : IntKind.u64.wrap (p * r) = p * r := IntWalk.u64_in _ (by omega)
  have w2 : IntKind.u64.wrap (p * s) = p * s := IntWalk.u64_in _ (by omega)
  have w3 : IntKind.u64.wrap (q * r) = q * r := IntWalk.u64_in _ (by omega)
  have w4 : IntKind.u64.wrap (q * s) = q * s := IntWalk.u64_in _ (by omega)
  have f1 : p * r = hi (p * r * 18446744073709551616) := by unfold hi; omega
  have f2 : (0 : Int) = lo (p * r * 18446744073709551616) := by unfold lo; omega
  have f3 : (0 : Int) = hi (q * s) := by unfold hi; omega
  have f4 : q * s = lo (q * s) := by unfold lo; omega
  have Hf := Lib.hid (And.intro f1 (And.intro f2 (And.intro f3 f4)))
  have Hm := Lib.hid (halves_mul X Y p q r s hp hq hr hs')
  clear f1 f2 f3 f4
  have b1 : decide (a < 0) = false := by simp; omega
  have b2 : decide (b < 0) = false := by simp; omega
  go_enter Try.func40, Try.ntmps40
  go_wp2_with fail
  refine (radd_at _ _ _ _ _ _ _ Hf.out.1 Hf.out.2.1 Hf.out.2.2.1 Hf.out.2.2.2).mono ?_
  rintro e w' ⟨rfl, hb⟩
  obtain ⟨N, hN⟩ : ∃ N, p * r * 18446744073709551616 + q * s = N := ⟨_, rfl⟩
  rw [hN]
  have HN := Lib.hid hN
  clear hN
  have hsz : w.heap.size + 1 ≤ w'.heap.size := by have := hb.size; simp at this; omega
  have k0 := hb.cell (p := ⟨w.heap.size, 0, none⟩) (by simp)
  have k1 := hb.cell (p := ⟨w.heap.size, 1, none⟩) (by simp)
  have k2 := hb.frozen (p := ⟨w.heap.size, 0, none⟩) (by simp)
  have k3 := hb.frozen (p := ⟨w.heap.size, 1, none⟩) (by simp)
  simp [go_sem] at k0 k1 k2 k3
  have hB : Below w.heap.size w w' := ((Below.refl _ _).alloc (Nat.le_refl _) _).trans (hb.mono (by simp))
  clear hb
  go_wp2_with fail
  obtain ⟨m, hm⟩ : ∃ m, w'.heap.size = m := ⟨_, rfl⟩
  refine wp_gen (fun z => z.cell? ⟨m, 0, none⟩ = some (.int .i64 (hi N)) ∧ z.cell? ⟨m, 1, none⟩ = some (.int .u64 (lo N)) ∧ z.frozen? ⟨m, 0, none⟩ = false ∧ z.frozen? ⟨m, 1, none⟩ = false ∧ OwnN w.heap.size 2 z ∧ (m < z.heap.size ∧ w.heap.size < m) ∧ Below w.heap.size w z) ⟨by rw [← hm]; simp [go_sem], by rw [← hm]; simp [go_sem], by rw [← hm]; simp [go_sem], by rw [← hm]; simp [go_sem], ?own, ?siz, ?bel⟩ ?_
  case own => exact OwnN.of_two ⟨_, by rw [World.cell?_alloc_old _ _ _ (by simp; omega)]; exact k0⟩ (by rw [World.frozen?_alloc_old _ _ _ (by simp; omega)]; exact k2) ⟨_, by rw [World.cell?_alloc_old _ _ _ (by simp; omega)]; exact k1⟩ (by rw [World.frozen?_alloc_old _ _ _ (by simp; omega)]; exact k3)
  case siz => simp; omega
  case bel => exact hB.alloc (by omega) _
  rw [hm]
  rintro z0 hS0
  have hS1 := mulS (N := N) (m := m) hS0 (Below.refl _ _).drew
  clear hm hS0 k0 k1 k2 k3 hB hsz
  go_region_with (first | (go_at_call 48; refine (rraised_any _ _ ?_).mono ?_; omega; rintro e z ⟨rfl, hb⟩; have hS := mulS ‹_› hb) | (go_at_call 47; refine (radd_any _ _ _).mono ?_; rintro e z ⟨rfl, hb⟩; have hS := mulS ‹_› hb; obtain ⟨⟨x0, hx0⟩, f0, ⟨x1, hx1⟩, f1⟩ := OwnN.two hS.2.2.2.2.1))
  all_goals
    go_wp2
    refine bodyPost_ret (by simp [results, Try.results40, go_sem, hx0, hx1] <;> rfl) rfl ⟨?_, ?_⟩
    · rw [← Hm.out, HN.out]
    · exact ((((hS.2.2.2.2.2.2.setCell (by simp; omega) _).setCell (by simp; omega) _).setCell (by simp) _).setCell (by simp) _)

theorem rmul_pn (a b X Y p q r s : Int) (w : World) (ha : -9223372036854775808 ≤ a ∧ a ≤ 9223372036854775807) (hb : -9223372036854775808 ≤ b ∧ b ≤ 9223372036854775807)
    (c1 : 0 ≤ a) (c2 : b < 0) (eX : IntKind.u64.wrap a = X) (eY : IntKind.u64.wrap (-IntKind.u64.wrap b) = Y) (bX : 0 ≤ X ∧ X ≤ 9223372036854775808) (bY : 0 ≤ Y ∧ Y ≤ 9223372036854775808)
    (hp : X / 4294967296 = p) (hq : X % 4294967296 = q) (hr : Y / 4294967296 = r) (hs' : Y % 4294967296 = s) :
    Calls Try.prog 40 #[.int .i64 a, .int .i64 b] w fun e w' => e = .returned (W (-(X * Y))) ∧ Below w.heap.size w w' := by
  have bp : 0 ≤ p ∧ p ≤ 2147483648 := by omega
  have bq : 0 ≤ q ∧ q ≤ 4294967295 := by omega
  have br : 0 ≤ r ∧ r ≤ 2147483648 := by omega
  have bs : 0 ≤ s ∧ s ≤ 4294967295 := by omega
  have pr := mul_bd p r _ _ bp br
  have ps := mul_bd p s _ _ bp bs
  have qr := mul_bd q r _ _ bq br
  have qs := mul_bd q s _ _ bq bs
  have w1 : IntKind.u64.wrap (p * r) = p * r := IntWalk.u64_in _ (by omega)
  have w2 : IntKind.u64.wrap (p * s) = p * s := IntWalk.u64_in _ (by omega)
  have w3 : IntKind.u64.wrap (q * r) = q * r := IntWalk.u64_in _ (by omega)
  have w4 : IntKind.u64.wrap (q * s) = q * s := IntWalk.u64_in _ (by omega)
  have f1 : p * r = hi (p * r * 18446744073709551616) := by unfold hi; omega
  have f2 : (0 : Int) = lo (p * r * 18446744073709551616) := by unfold lo; omega
  have f3 : (0 : Int) = hi (q * s) := by unfold hi; omega
  have f4 : q * s = lo (q * s) := by unfold lo; omega
  have Hf := Lib.hid (And.intro f1 (And.intro f2 (And.intro f3 f4)))
  have Hm := Lib.hid (halves_mul X Y p q r s hp hq hr hs')
  clear f1 f2 f3 f4
  have b1 : decide (a < 0) = false := by simp; omega
  have b2 : decide (b < 0) = true := by simp; omega
  go_enter Try.func40, Try.ntmps40
  go_wp2_with fail
  refine (radd_at _ _ _ _ _ _ _ Hf.out.1 Hf.out.2.1 Hf.out.2.2.1 Hf.out.2.2.2).mono ?_
  rintro e w' ⟨rfl, hb⟩
  obtain ⟨N, hN⟩ : ∃ N, p * r * 18446744073709551616 + q * s = N := ⟨_, rfl⟩
  rw [hN]
  have HN := Lib.hid hN
  clear hN
  have hsz : w.heap.size + 1 ≤ w'.heap.size := by have := hb.size; simp at this; omega
  have k0 := hb.cell (p := ⟨w.heap.size, 0, none⟩) (by simp)
  have k1 := hb.cell (p := ⟨w.heap.size, 1, none⟩) (by simp)
  have k2 := hb.frozen (p := ⟨w.heap.size, 0, none⟩) (by simp)
  have k3 := hb.frozen (p := ⟨w.heap.size, 1, none⟩) (by simp)
  simp [go_sem] at k0 k1 k2 k3
  have hB : Below w.heap.size w w' := ((Below.refl _ _).alloc (Nat.le_refl _) _).trans (hb.mono (by simp))
  clear hb
  go_wp2_with fail
  obtain ⟨m, hm⟩ : ∃ m, w'.heap.size = m := ⟨_, rfl⟩
  refine wp_gen (fun z => z.cell? ⟨m, 0, none⟩ = some (.int .i64 (hi N)) ∧ z.cell? ⟨m, 1, none⟩ = some (.int .u64 (lo N)) ∧ z.frozen? ⟨m, 0, none⟩ = false ∧ z.frozen? ⟨m, 1, none⟩ = false ∧ OwnN w.heap.size 2 z ∧ (m < z.heap.size ∧ w.heap.size < m) ∧ Below w.heap.size w z) ⟨by rw [← hm]; simp [go_sem], by rw [← hm]; simp [go_sem], by rw [← hm]; simp [go_sem], by rw [← hm]; simp [go_sem], ?own, ?siz, ?bel⟩ ?_
  case own => exact OwnN.of_two ⟨_, by rw [World.cell?_alloc_old _ _ _ (by simp; omega)]; exact k0⟩ (by rw [World.frozen?_alloc_old _ _ _ (by simp; omega)]; exact k2) ⟨_, by rw [World.cell?_alloc_old _ _ _ (by simp; omega)]; exact k1⟩ (by rw [World.frozen?_alloc_old _ _ _ (by simp; omega)]; exact k3)
  case siz => simp; omega
  case bel => exact hB.alloc (by omega) _
  rw [hm]
  rintro z0 hS0
  have hS1 := mulS (N := N) (m := m) hS0 (Below.refl _ _).drew
  clear hm hS0 k0 k1 k2 k3 hB hsz
  go_region_with (first | (go_at_call 48; refine (rraised_any _ _ ?_).mono ?_; omega; rintro e z ⟨rfl, hb⟩; have hS := mulS ‹_› hb) | (go_at_call 47; refine (radd_any _ _ _).mono ?_; rintro e z ⟨rfl, hb⟩; have hS := mulS ‹_› hb; obtain ⟨⟨x0, hx0⟩, f0, ⟨x1, hx1⟩, f1⟩ := OwnN.two hS.2.2.2.2.1))
  all_goals
    go_wp2_with fail
    refine (rneg_any _ _).mono ?_
    rintro e y ⟨rfl, hy⟩
    have o1 := (((hS.2.2.2.2.1.setCell ⟨m, 0, none⟩ (Value.int IntKind.i64 (hi (N + p * s * 4294967296 + q * r * 4294967296)))).setCell ⟨m, 1, none⟩ (Value.int IntKind.u64 (lo (N + p * s * 4294967296 + q * r * 4294967296)))).below hy (by simp [World.setCell]; omega))
    have o2 := (((hS.2.2.2.2.2.2.setCell (p := ⟨m, 0, none⟩) (by simp; omega) (Value.int IntKind.i64 (hi (N + p * s * 4294967296 + q * r * 4294967296)))).setCell (p := ⟨m, 1, none⟩) (by simp; omega) (Value.int IntKind.u64 (lo (N + p * s * 4294967296 + q * r * 4294967296)))).trans (hy.mono (by simp [World.setCell]; omega)))
    obtain ⟨⟨y0, hy0⟩, g0, ⟨y1, hy1⟩, g1⟩ := OwnN.two o1
    clear hS hx0 hx1 f0 f1 hy
    go_wp2
    refine bodyPost_ret (by simp [results, Try.results40, go_sem, hy0, hy1] <;> rfl) rfl ⟨?_, ?_⟩
    · rw [← Hm.out, HN.out]
    · exact (o2.setCell (by simp) _).setCell (by simp) _

theorem rmul_np (a b X Y p q r s : Int) (w : World) (ha : -9223372036854775808 ≤ a ∧ a ≤ 9223372036854775807) (hb : -9223372036854775808 ≤ b ∧ b ≤ 9223372036854775807)
    (c1 : a < 0) (c2 : 0 ≤ b) (eX : IntKind.u64.wrap (-IntKind.u64.wrap a) = X) (eY : IntKind.u64.wrap b = Y) (bX : 0 ≤ X ∧ X ≤ 9223372036854775808) (bY : 0 ≤ Y ∧ Y ≤ 9223372036854775808)
    (hp : X / 4294967296 = p) (hq : X % 4294967296 = q) (hr : Y / 4294967296 = r) (hs' : Y % 4294967296 = s) :
    Calls Try.prog 40 #[.int .i64 a, .int .i64 b] w fun e w' => e = .returned (W (-(X * Y))) ∧ Below w.heap.size w w' := by
  have bp : 0 ≤ p ∧ p ≤ 2147483648 := by omega
  have bq : 0 ≤ q ∧ q ≤ 4294967295 := by omega
  have br : 0 ≤ r ∧ r ≤ 2147483648 := by omega
  have bs : 0 ≤ s ∧ s ≤ 4294967295 := by omega
  have pr := mul_bd p r _ _ bp br
  have ps := mul_bd p s _ _ bp bs
  have qr := mul_bd q r _ _ bq br
  have qs := mul_bd q s _ _ bq bs
  have w1 : IntKind.u64.wrap (p * r) = p * r := IntWalk.u64_in _ (by omega)
  have w2 : IntKind.u64.wrap (p * s) = p * s := IntWalk.u64_in _ (by omega)
  have w3 : IntKind.u64.wrap (q * r) = q * r := IntWalk.u64_in _ (by omega)
  have w4 : IntKind.u64.wrap (q * s) = q * s := IntWalk.u64_in _ (by omega)
  have f1 : p * r = hi (p * r * 18446744073709551616) := by unfold hi; omega
  have f2 : (0 : Int) = lo (p * r * 18446744073709551616) := by unfold lo; omega
  have f3 : (0 : Int) = hi (q * s) := by unfold hi; omega
  have f4 : q * s = lo (q * s) := by unfold lo; omega
  have Hf := Lib.hid (And.intro f1 (And.intro f2 (And.intro f3 f4)))
  have Hm := Lib.hid (halves_mul X Y p q r s hp hq hr hs')
  clear f1 f2 f3 f4
  have b1 : decide (a < 0) = true := by simp; omega
  have b2 : decide (b < 0) = false := by simp; omega
  go_enter Try.func40, Try.ntmps40
  go_wp2_with fail
  refine (radd_at _ _ _ _ _ _ _ Hf.out.1 Hf.out.2.1 Hf.out.2.2.1 Hf.out.2.2.2).mono ?_
  rintro e w' ⟨rfl, hb⟩
  obtain ⟨N, hN⟩ : ∃ N, p * r * 18446744073709551616 + q * s = N := ⟨_, rfl⟩
  rw [hN]
  have HN := Lib.hid hN
  clear hN
  have hsz : w.heap.size + 1 ≤ w'.heap.size := by have := hb.size; simp at this; omega
  have k0 := hb.cell (p := ⟨w.heap.size, 0, none⟩) (by simp)
  have k1 := hb.cell (p := ⟨w.heap.size, 1, none⟩) (by simp)
  have k2 := hb.frozen (p := ⟨w.heap.size, 0, none⟩) (by simp)
  have k3 := hb.frozen (p := ⟨w.heap.size, 1, none⟩) (by simp)
  simp [go_sem] at k0 k1 k2 k3
  have hB : Below w.heap.size w w' := ((Below.refl _ _).alloc (Nat.le_refl _) _).trans (hb.mono (by simp))
  clear hb
  go_wp2_with fail
  obtain ⟨m, hm⟩ : ∃ m, w'.heap.size = m := ⟨_, rfl⟩
  refine wp_gen (fun z => z.cell? ⟨m, 0, none⟩ = some (.int .i64 (hi N)) ∧ z.cell? ⟨m, 1, none⟩ = some (.int .u64 (lo N)) ∧ z.frozen? ⟨m, 0, none⟩ = false ∧ z.frozen? ⟨m, 1, none⟩ = false ∧ OwnN w.heap.size 2 z ∧ (m < z.heap.size ∧ w.heap.size < m) ∧ Below w.heap.size w z) ⟨by rw [← hm]; simp [go_sem], by rw [← hm]; simp [go_sem], by rw [← hm]; simp [go_sem], by rw [← hm]; simp [go_sem], ?own, ?siz, ?bel⟩ ?_
  case own => exact OwnN.of_two ⟨_, by rw [World.cell?_alloc_old _ _ _ (by simp; omega)]; exact k0⟩ (by rw [World.frozen?_alloc_old _ _ _ (by simp; omega)]; exact k2) ⟨_, by rw [World.cell?_alloc_old _ _ _ (by simp; omega)]; exact k1⟩ (by rw [World.frozen?_alloc_old _ _ _ (by simp; omega)]; exact k3)
  case siz => simp; omega
  case bel => exact hB.alloc (by omega) _
  rw [hm]
  rintro z0 hS0
  have hS1 := mulS (N := N) (m := m) hS0 (Below.refl _ _).drew
  clear hm hS0 k0 k1 k2 k3 hB hsz
  go_region_with (first | (go_at_call 48; refine (rraised_any _ _ ?_).mono ?_; omega; rintro e z ⟨rfl, hb⟩; have hS := mulS ‹_› hb) | (go_at_call 47; refine (radd_any _ _ _).mono ?_; rintro e z ⟨rfl, hb⟩; have hS := mulS ‹_› hb; obtain ⟨⟨x0, hx0⟩, f0, ⟨x1, hx1⟩, f1⟩ := OwnN.two hS.2.2.2.2.1))
  all_goals
    go_wp2_with fail
    refine (rneg_any _ _).mono ?_
    rintro e y ⟨rfl, hy⟩
    have o1 := (((hS.2.2.2.2.1.setCell ⟨m, 0, none⟩ (Value.int IntKind.i64 (hi (N + p * s * 4294967296 + q * r * 4294967296)))).setCell ⟨m, 1, none⟩ (Value.int IntKind.u64 (lo (N + p * s * 4294967296 + q * r * 4294967296)))).below hy (by simp [World.setCell]; omega))
    have o2 := (((hS.2.2.2.2.2.2.setCell (p := ⟨m, 0, none⟩) (by simp; omega) (Value.int IntKind.i64 (hi (N + p * s * 4294967296 + q * r * 4294967296)))).setCell (p := ⟨m, 1, none⟩) (by simp; omega) (Value.int IntKind.u64 (lo (N + p * s * 4294967296 + q * r * 4294967296)))).trans (hy.mono (by simp [World.setCell]; omega)))
    obtain ⟨⟨y0, hy0⟩, g0, ⟨y1, hy1⟩, g1⟩ := OwnN.two o1
    clear hS hx0 hx1 f0 f1 hy
    go_wp2
    refine bodyPost_ret (by simp [results, Try.results40, go_sem, hy0, hy1] <;> rfl) rfl ⟨?_, ?_⟩
    · rw [← Hm.out, HN.out]
    · exact (o2.setCell (by simp) _).setCell (by simp) _

theorem rmul_nn (a b X Y p q r s : Int) (w : World) (ha : -9223372036854775808 ≤ a ∧ a ≤ 9223372036854775807) (hb : -9223372036854775808 ≤ b ∧ b ≤ 9223372036854775807)
    (c1 : a < 0) (c2 : b < 0) (eX : IntKind.u64.wrap (-IntKind.u64.wrap a) = X) (eY : IntKind.u64.wrap (-IntKind.u64.wrap b) = Y) (bX : 0 ≤ X ∧ X ≤ 9223372036854775808) (bY : 0 ≤ Y ∧ Y ≤ 9223372036854775808)
    (hp : X / 4294967296 = p) (hq : X % 4294967296 = q) (hr : Y / 4294967296 = r) (hs' : Y % 4294967296 = s) :
    Calls Try.prog 40 #[.int .i64 a, .int .i64 b] w fun e w' => e = .returned (W (X * Y)) ∧ Below w.heap.size w w' := by
  have bp : 0 ≤ p ∧ p ≤ 2147483648 := by omega
  have bq : 0 ≤ q ∧ q ≤ 4294967295 := by omega
  have br : 0 ≤ r ∧ r ≤ 2147483648 := by omega
  have bs : 0 ≤ s ∧ s ≤ 4294967295 := by omega
  have pr := mul_bd p r _ _ bp br
  have ps := mul_bd p s _ _ bp bs
  have qr := mul_bd q r _ _ bq br
  have qs := mul_bd q s _ _ bq bs
  have w1 : IntKind.u64.wrap (p * r) = p * r := IntWalk.u64_in _ (by omega)
  have w2 : IntKind.u64.wrap (p * s) = p * s := IntWalk.u64_in _ (by omega)
  have w3 : IntKind.u64.wrap (q * r) = q * r := IntWalk.u64_in _ (by omega)
  have w4 : IntKind.u64.wrap (q * s) = q * s := IntWalk.u64_in _ (by omega)
  have f1 : p * r = hi (p * r * 18446744073709551616) := by unfold hi; omega
  have f2 : (0 : Int) = lo (p * r * 18446744073709551616) := by unfold lo; omega
  have f3 : (0 : Int) = hi (q * s) := by unfold hi; omega
  have f4 : q * s = lo (q * s) := by unfold lo; omega
  have Hf := Lib.hid (And.intro f1 (And.intro f2 (And.intro f3 f4)))
  have Hm := Lib.hid (halves_mul X Y p q r s hp hq hr hs')
  clear f1 f2 f3 f4
  have b1 : decide (a < 0) = true := by simp; omega
  have b2 : decide (b < 0) = true := by simp; omega
  go_enter Try.func40, Try.ntmps40
  go_wp2_with fail
  refine (radd_at _ _ _ _ _ _ _ Hf.out.1 Hf.out.2.1 Hf.out.2.2.1 Hf.out.2.2.2).mono ?_
  rintro e w' ⟨rfl, hb⟩
  obtain ⟨N, hN⟩ : ∃ N, p * r * 18446744073709551616 + q * s = N := ⟨_, rfl⟩
  rw [hN]
  have HN := Lib.hid hN
  clear hN
  have hsz : w.heap.size + 1 ≤ w'.heap.size := by have := hb.size; simp at this; omega
  have k0 := hb.cell (p := ⟨w.heap.size, 0, none⟩) (by simp)
  have k1 := hb.cell (p := ⟨w.heap.size, 1, none⟩) (by simp)
  have k2 := hb.frozen (p := ⟨w.heap.size, 0, none⟩) (by simp)
  have k3 := hb.frozen (p := ⟨w.heap.size, 1, none⟩) (by simp)
  simp [go_sem] at k0 k1 k2 k3
  have hB : Below w.heap.size w w' := ((Below.refl _ _).alloc (Nat.le_refl _) _).trans (hb.mono (by simp))
  clear hb
  go_wp2_with fail
  obtain ⟨m, hm⟩ : ∃ m, w'.heap.size = m := ⟨_, rfl⟩
  refine wp_gen (fun z => z.cell? ⟨m, 0, none⟩ = some (.int .i64 (hi N)) ∧ z.cell? ⟨m, 1, none⟩ = some (.int .u64 (lo N)) ∧ z.frozen? ⟨m, 0, none⟩ = false ∧ z.frozen? ⟨m, 1, none⟩ = false ∧ OwnN w.heap.size 2 z ∧ (m < z.heap.size ∧ w.heap.size < m) ∧ Below w.heap.size w z) ⟨by rw [← hm]; simp [go_sem], by rw [← hm]; simp [go_sem], by rw [← hm]; simp [go_sem], by rw [← hm]; simp [go_sem], ?own, ?siz, ?bel⟩ ?_
  case own => exact OwnN.of_two ⟨_, by rw [World.cell?_alloc_old _ _ _ (by simp; omega)]; exact k0⟩ (by rw [World.frozen?_alloc_old _ _ _ (by simp; omega)]; exact k2) ⟨_, by rw [World.cell?_alloc_old _ _ _ (by simp; omega)]; exact k1⟩ (by rw [World.frozen?_alloc_old _ _ _ (by simp; omega)]; exact k3)
  case siz => simp; omega
  case bel => exact hB.alloc (by omega) _
  rw [hm]
  rintro z0 hS0
  have hS1 := mulS (N := N) (m := m) hS0 (Below.refl _ _).drew
  clear hm hS0 k0 k1 k2 k3 hB hsz
  go_region_with (first | (go_at_call 48; refine (rraised_any _ _ ?_).mono ?_; omega; rintro e z ⟨rfl, hb⟩; have hS := mulS ‹_› hb) | (go_at_call 47; refine (radd_any _ _ _).mono ?_; rintro e z ⟨rfl, hb⟩; have hS := mulS ‹_› hb; obtain ⟨⟨x0, hx0⟩, f0, ⟨x1, hx1⟩, f1⟩ := OwnN.two hS.2.2.2.2.1))
  all_goals
    go_wp2
    refine bodyPost_ret (by simp [results, Try.results40, go_sem, hx0, hx1] <;> rfl) rfl ⟨?_, ?_⟩
    · rw [← Hm.out, HN.out]
    · exact ((((hS.2.2.2.2.2.2.setCell (by simp; omega) _).setCell (by simp; omega) _).setCell (by simp) _).setCell (by simp) _)

theorem rmul_any (a b : Int) (w : World) (ha : -9223372036854775808 ≤ a ∧ a ≤ 9223372036854775807) (hb : -9223372036854775808 ≤ b ∧ b ≤ 9223372036854775807) :
    Calls Try.prog 40 #[.int .i64 a, .int .i64 b] w fun e w' => e = .returned (W (a * b)) ∧ Below w.heap.size w w' := by
  by_cases h1 : a < 0
  · by_cases h2 : b < 0
    · have h := rmul_nn a b (-a) (-b) _ _ _ _ w ha hb h1 h2 (by simp only [IntKind.wrap_u64]; omega) (by simp only [IntKind.wrap_u64]; omega) (by omega) (by omega) rfl rfl rfl rfl
      rw [Int.neg_mul_neg] at h
      exact h
    · have h := rmul_np a b (-a) b _ _ _ _ w ha hb h1 (by omega) (by simp only [IntKind.wrap_u64]; omega) (by simp only [IntKind.wrap_u64]; omega) (by omega) (by omega) rfl rfl rfl rfl
      rw [Int.neg_mul, Int.neg_neg] at h
      exact h
  · by_cases h2 : b < 0
    · have h := rmul_pn a b a (-b) _ _ _ _ w ha hb (by omega) h2 (by simp only [IntKind.wrap_u64]; omega) (by simp only [IntKind.wrap_u64]; omega) (by omega) (by omega) rfl rfl rfl rfl
      rw [Int.mul_neg, Int.neg_neg] at h
      exact h
    · exact rmul_pp a b a b _ _ _ _ w ha hb (by omega) (by omega) (by simp only [IntKind.wrap_u64]; omega) (by simp only [IntKind.wrap_u64]; omega) (by omega) (by omega) rfl rfl rfl rfl
end Go.Proofs.Ytlgfnhapjhoelaa
