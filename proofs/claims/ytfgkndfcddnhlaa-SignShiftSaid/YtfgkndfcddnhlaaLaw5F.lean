/- The walk of SignShift. -/
import Derived.Test.YtfgkndfcddnhlaaLaw5S
import Derived.Test.YtfgkndfcddnhlaaSlide
import Derived.Test.YtfgkndfcddnhlaaMoreB
namespace Go.Proofs.Ytfgkndfcddnhlaa
open Go.RowKit
set_option linter.unusedVariables false
set_option linter.unusedSimpArgs false
set_option maxHeartbeats 4000000
set_option maxRecDepth 100000

theorem shf_far (x y u v c d p q s t : Int) (w : World) (na : allNear [(x, y), (u, v), (c, d), (p, q)] = false) :
    Calls Try.prog 8 #[P2 x y, P2 u v, P2 c d, P2 p q, P2 s t] w fun e w' => e = .returned (.bool true) ∧ Below w.heap.size w w' := by
  have NA := Lib.hid na
  clear na
  go_enter Try.func8, Try.ntmps8
  go_wp2_with fail
  refine (near4_any _ x y u v c d p q false _ NA.out (by simp) (by first | simp | simp [go_sem]) (by first | simp | simp [go_sem]) (by first | simp | simp [go_sem]) (by first | simp | simp [go_sem]) (by first | simp | simp [go_sem]) (by first | simp | simp [go_sem]) (by first | simp | simp [go_sem]) (by first | simp | simp [go_sem])).mono ?_
  rintro e w1 ⟨rfl, h1⟩
  have z1 := h1.size
  simp at z1
  have hs : w.heap.size + 1 + 1 + 1 + 1 + 1 + 1 ≤ w1.heap.size := by omega
  have c1 : w1.cell? ⟨w.heap.size, 0, none⟩ = some (.int .i64 (x)) := (h1.cell (p := ⟨w.heap.size, 0, none⟩) (by simp; try omega)).trans (by first | simp | simp [go_sem])
  have c2 : w1.cell? ⟨w.heap.size, 1, none⟩ = some (.int .i64 (y)) := (h1.cell (p := ⟨w.heap.size, 1, none⟩) (by simp; try omega)).trans (by first | simp | simp [go_sem])
  have c3 : w1.cell? ⟨w.heap.size + 1, 0, none⟩ = some (.int .i64 (u)) := (h1.cell (p := ⟨w.heap.size + 1, 0, none⟩) (by simp; try omega)).trans (by first | simp | simp [go_sem])
  have c4 : w1.cell? ⟨w.heap.size + 1, 1, none⟩ = some (.int .i64 (v)) := (h1.cell (p := ⟨w.heap.size + 1, 1, none⟩) (by simp; try omega)).trans (by first | simp | simp [go_sem])
  have c5 : w1.cell? ⟨w.heap.size + 1 + 1, 0, none⟩ = some (.int .i64 (c)) := (h1.cell (p := ⟨w.heap.size + 1 + 1, 0, none⟩) (by simp; try omega)).trans (by first | simp | simp [go_sem])
  have c6 : w1.cell? ⟨w.heap.size + 1 + 1, 1, none⟩ = some (.int .i64 (d)) := (h1.cell (p := ⟨w.heap.size + 1 + 1, 1, none⟩) (by simp; try omega)).trans (by first | simp | simp [go_sem])
  have c7 : w1.cell? ⟨w.heap.size + 1 + 1 + 1, 0, none⟩ = some (.int .i64 (p)) := (h1.cell (p := ⟨w.heap.size + 1 + 1 + 1, 0, none⟩) (by simp; try omega)).trans (by first | simp | simp [go_sem])
  have c8 : w1.cell? ⟨w.heap.size + 1 + 1 + 1, 1, none⟩ = some (.int .i64 (q)) := (h1.cell (p := ⟨w.heap.size + 1 + 1 + 1, 1, none⟩) (by simp; try omega)).trans (by first | simp | simp [go_sem])
  have c9 : w1.cell? ⟨w.heap.size + 1 + 1 + 1 + 1, 0, none⟩ = some (.int .i64 (s)) := (h1.cell (p := ⟨w.heap.size + 1 + 1 + 1 + 1, 0, none⟩) (by simp; try omega)).trans (by first | simp | simp [go_sem])
  have c10 : w1.cell? ⟨w.heap.size + 1 + 1 + 1 + 1, 1, none⟩ = some (.int .i64 (t)) := (h1.cell (p := ⟨w.heap.size + 1 + 1 + 1 + 1, 1, none⟩) (by simp; try omega)).trans (by first | simp | simp [go_sem])
  have hb0 : Below w.heap.size w w1 := (((((((Below.refl _ _).alloc (by simp; try omega) _).alloc (by simp; try omega) _).alloc (by simp; try omega) _).alloc (by simp; try omega) _).alloc (by simp; try omega) _).alloc (by simp; try omega) _).trans (h1.mono (by simp; try omega))
  clear h1 z1
  go_wp2_with fail
  refine (shown_any _).mono ?_
  rintro e w2 ⟨rfl, h2⟩
  go_wp2
  go_ret
  exact ⟨rfl, hb0.trans (h2.mono (by omega))⟩

theorem shf_by (x y u v c d p q s t : Int) (w : World) (na : allNear [(x, y), (u, v), (c, d), (p, q)] = true) (nb : allNear [(s, t)] = false) :
    Calls Try.prog 8 #[P2 x y, P2 u v, P2 c d, P2 p q, P2 s t] w fun e w' => e = .returned (.bool true) ∧ Below w.heap.size w w' := by
  have NA := Lib.hid na
  have NB := Lib.hid nb
  clear na nb
  go_enter Try.func8, Try.ntmps8
  go_wp2_with fail
  refine (near4_any _ x y u v c d p q true _ NA.out (by simp) (by first | simp | simp [go_sem]) (by first | simp | simp [go_sem]) (by first | simp | simp [go_sem]) (by first | simp | simp [go_sem]) (by first | simp | simp [go_sem]) (by first | simp | simp [go_sem]) (by first | simp | simp [go_sem]) (by first | simp | simp [go_sem])).mono ?_
  rintro e w1 ⟨rfl, h1⟩
  have z1 := h1.size
  simp at z1
  have hs : w.heap.size + 1 + 1 + 1 + 1 + 1 + 1 ≤ w1.heap.size := by omega
  have c1 : w1.cell? ⟨w.heap.size, 0, none⟩ = some (.int .i64 (x)) := (h1.cell (p := ⟨w.heap.size, 0, none⟩) (by simp; try omega)).trans (by first | simp | simp [go_sem])
  have c2 : w1.cell? ⟨w.heap.size, 1, none⟩ = some (.int .i64 (y)) := (h1.cell (p := ⟨w.heap.size, 1, none⟩) (by simp; try omega)).trans (by first | simp | simp [go_sem])
  have c3 : w1.cell? ⟨w.heap.size + 1, 0, none⟩ = some (.int .i64 (u)) := (h1.cell (p := ⟨w.heap.size + 1, 0, none⟩) (by simp; try omega)).trans (by first | simp | simp [go_sem])
  have c4 : w1.cell? ⟨w.heap.size + 1, 1, none⟩ = some (.int .i64 (v)) := (h1.cell (p := ⟨w.heap.size + 1, 1, none⟩) (by simp; try omega)).trans (by first | simp | simp [go_sem])
  have c5 : w1.cell? ⟨w.heap.size + 1 + 1, 0, none⟩ = some (.int .i64 (c)) := (h1.cell (p := ⟨w.heap.size + 1 + 1, 0, none⟩) (by simp; try omega)).trans (by first | simp | simp [go_sem])
  have c6 : w1.cell? ⟨w.heap.size + 1 + 1, 1, none⟩ = some (.int .i64 (d)) := (h1.cell (p := ⟨w.heap.size + 1 + 1, 1, none⟩) (by simp; try omega)).trans (by first | simp | simp [go_sem])
  have c7 : w1.cell? ⟨w.heap.size + 1 + 1 + 1, 0, none⟩ = some (.int .i64 (p)) := (h1.cell (p := ⟨w.heap.size + 1 + 1 + 1, 0, none⟩) (by simp; try omega)).trans (by first | simp | simp [go_sem])
  have c8 : w1.cell? ⟨w.heap.size + 1 + 1 + 1, 1, none⟩ = some (.int .i64 (q)) := (h1.cell (p := ⟨w.heap.size + 1 + 1 + 1, 1, none⟩) (by simp; try omega)).trans (by first | simp | simp [go_sem])
  have c9 : w1.cell? ⟨w.heap.size + 1 + 1 + 1 + 1, 0, none⟩ = some (.int .i64 (s)) := (h1.cell (p := ⟨w.heap.size + 1 + 1 + 1 + 1, 0, none⟩) (by simp; try omega)).trans (by first | simp | simp [go_sem])
  have c10 : w1.cell? ⟨w.heap.size + 1 + 1 + 1 + 1, 1, none⟩ = some (.int .i64 (t)) := (h1.cell (p := ⟨w.heap.size + 1 + 1 + 1 + 1, 1, none⟩) (by simp; try omega)).trans (by first | simp | simp [go_sem])
  have hb0 : Below w.heap.size w w1 := (((((((Below.refl _ _).alloc (by simp; try omega) _).alloc (by simp; try omega) _).alloc (by simp; try omega) _).alloc (by simp; try omega) _).alloc (by simp; try omega) _).alloc (by simp; try omega) _).trans (h1.mono (by simp; try omega))
  clear h1 z1
  go_wp2_with fail
  refine (near1_any _ s t false _ NB.out (by simp) (by first | simp | simp [go_sem]) (by first | simp | simp [go_sem])).mono ?_
  rintro e w2 ⟨rfl, h2⟩
  have z2 := h2.size
  simp at z2
  have d1 : w2.cell? ⟨w.heap.size, 0, none⟩ = some (.int .i64 (x)) := (h2.cell (p := ⟨w.heap.size, 0, none⟩) (by simp; omega)).trans ((World.cell?_alloc_old _ _ _ (by dsimp only; omega)).trans c1)
  have d2 : w2.cell? ⟨w.heap.size, 1, none⟩ = some (.int .i64 (y)) := (h2.cell (p := ⟨w.heap.size, 1, none⟩) (by simp; omega)).trans ((World.cell?_alloc_old _ _ _ (by dsimp only; omega)).trans c2)
  have d3 : w2.cell? ⟨w.heap.size + 1, 0, none⟩ = some (.int .i64 (u)) := (h2.cell (p := ⟨w.heap.size + 1, 0, none⟩) (by simp; omega)).trans ((World.cell?_alloc_old _ _ _ (by dsimp only; omega)).trans c3)
  have d4 : w2.cell? ⟨w.heap.size + 1, 1, none⟩ = some (.int .i64 (v)) := (h2.cell (p := ⟨w.heap.size + 1, 1, none⟩) (by simp; omega)).trans ((World.cell?_alloc_old _ _ _ (by dsimp only; omega)).trans c4)
  have d5 : w2.cell? ⟨w.heap.size + 1 + 1, 0, none⟩ = some (.int .i64 (c)) := (h2.cell (p := ⟨w.heap.size + 1 + 1, 0, none⟩) (by simp; omega)).trans ((World.cell?_alloc_old _ _ _ (by dsimp only; omega)).trans c5)
  have d6 : w2.cell? ⟨w.heap.size + 1 + 1, 1, none⟩ = some (.int .i64 (d)) := (h2.cell (p := ⟨w.heap.size + 1 + 1, 1, none⟩) (by simp; omega)).trans ((World.cell?_alloc_old _ _ _ (by dsimp only; omega)).trans c6)
  have d7 : w2.cell? ⟨w.heap.size + 1 + 1 + 1, 0, none⟩ = some (.int .i64 (p)) := (h2.cell (p := ⟨w.heap.size + 1 + 1 + 1, 0, none⟩) (by simp; omega)).trans ((World.cell?_alloc_old _ _ _ (by dsimp only; omega)).trans c7)
  have d8 : w2.cell? ⟨w.heap.size + 1 + 1 + 1, 1, none⟩ = some (.int .i64 (q)) := (h2.cell (p := ⟨w.heap.size + 1 + 1 + 1, 1, none⟩) (by simp; omega)).trans ((World.cell?_alloc_old _ _ _ (by dsimp only; omega)).trans c8)
  have d9 : w2.cell? ⟨w.heap.size + 1 + 1 + 1 + 1, 0, none⟩ = some (.int .i64 (s)) := (h2.cell (p := ⟨w.heap.size + 1 + 1 + 1 + 1, 0, none⟩) (by simp; omega)).trans ((World.cell?_alloc_old _ _ _ (by dsimp only; omega)).trans c9)
  have d10 : w2.cell? ⟨w.heap.size + 1 + 1 + 1 + 1, 1, none⟩ = some (.int .i64 (t)) := (h2.cell (p := ⟨w.heap.size + 1 + 1 + 1 + 1, 1, none⟩) (by simp; omega)).trans ((World.cell?_alloc_old _ _ _ (by dsimp only; omega)).trans c10)
  have d11 : w2.cell? ⟨w1.heap.size, 0, none⟩ = some (.int .i64 (s)) := (h2.cell (p := ⟨w1.heap.size, 0, none⟩) (by simp)).trans (by first | simp | simp [go_sem])
  have d12 : w2.cell? ⟨w1.heap.size, 1, none⟩ = some (.int .i64 (t)) := (h2.cell (p := ⟨w1.heap.size, 1, none⟩) (by simp)).trans (by first | simp | simp [go_sem])
  have hb1 : Below w.heap.size w w2 := (hb0.alloc (by omega) _).trans (h2.mono (by simp; omega))
  clear hb0 h2 c1 c2 c3 c4 c5 c6 c7 c8 c9 c10
  have hb0 := hb1
  clear hb1
  have c1 := d1
  clear d1
  have c2 := d2
  clear d2
  have c3 := d3
  clear d3
  have c4 := d4
  clear d4
  have c5 := d5
  clear d5
  have c6 := d6
  clear d6
  have c7 := d7
  clear d7
  have c8 := d8
  clear d8
  have c9 := d9
  clear d9
  have c10 := d10
  clear d10
  have c11 := d11
  clear d11
  have c12 := d12
  clear d12
  replace hs := Nat.le_trans hs (Nat.le_trans (Nat.le_succ _) z2)
  go_wp2_with fail
  refine (shown_any _).mono ?_
  rintro e w3 ⟨rfl, h3⟩
  go_wp2
  go_ret
  exact ⟨rfl, hb0.trans (h3.mono (by omega))⟩

/-- The points as they are shifted. -/
def shiftL (s t : Int) (p : Int × Int) : Int × Int := (p.1 + s, p.2 + t)

theorem shf_off (x y u v c d p q s t : Int) (w : World) (na : allNear [(x, y), (u, v), (c, d), (p, q)] = true) (nb : allNear [(s, t)] = true) (nz0 : allNear [(x + s, y + t), (u + s, v + t), (c + s, d + t), (p + s, q + t)] = false) :
    Calls Try.prog 8 #[P2 x y, P2 u v, P2 c d, P2 p q, P2 s t] w fun e w' => e = .returned (.bool true) ∧ Below w.heap.size w w' := by
  obtain ⟨hx, hy, hu, hv, hc, hd, hp, hq⟩ := near_4 na
  obtain ⟨hs1, ht1⟩ := near_1 nb
  obtain ⟨x1, hx1⟩ : ∃ x1, x + s = x1 := ⟨_, rfl⟩
  obtain ⟨y1, hy1⟩ : ∃ y1, y + t = y1 := ⟨_, rfl⟩
  obtain ⟨u1, hu1⟩ : ∃ u1, u + s = u1 := ⟨_, rfl⟩
  obtain ⟨v1, hv1⟩ : ∃ v1, v + t = v1 := ⟨_, rfl⟩
  obtain ⟨c1n, hc1n⟩ : ∃ c1n, c + s = c1n := ⟨_, rfl⟩
  obtain ⟨d1, hd1⟩ : ∃ d1, d + t = d1 := ⟨_, rfl⟩
  obtain ⟨p1, hp1⟩ : ∃ p1, p + s = p1 := ⟨_, rfl⟩
  obtain ⟨q1, hq1⟩ : ∃ q1, q + t = q1 := ⟨_, rfl⟩
  simp only [hx1, hy1, hu1, hv1, hc1n, hd1, hp1, hq1] at nz0
  have FL := Lib.hid (show ([(x, y), (u, v), (c, d), (p, q)] : List (Int × Int)).map (shiftL s t) = [(x1, y1), (u1, v1), (c1n, d1), (p1, q1)] by simp only [List.map_cons, List.map_nil, shiftL, hx1, hy1, hu1, hv1, hc1n, hd1, hp1, hq1])
  obtain ⟨l4, hl4⟩ : ∃ l : List (Int × Int), [(x, y), (u, v), (c, d), (p, q)] = l := ⟨_, rfl⟩
  have HL := Lib.hid hl4
  have HLL := Lib.hid (show l4.length = 4 by rw [← hl4]; rfl)
  have NR := Lib.hid (show ∀ (k : Nat) (a b : Int), l4[k]? = some (a, b) → (-1073741824 ≤ a ∧ a ≤ 1073741824) ∧ (-1073741824 ≤ b ∧ b ≤ 1073741824) from fun k a b hk => nearB_iff.1 (List.all_eq_true.1 (show allNear l4 = true by rw [← hl4]; exact na) _ (List.mem_of_getElem? hk)))
  have HST := Lib.hid (And.intro hs1 ht1)
  have NA := Lib.hid na
  have NB := Lib.hid nb
  have NZ := Lib.hid nz0
  clear na nb nz0 hl4 hx hy hu hv hc hd hp hq hs1 ht1 hx1 hy1 hu1 hv1 hc1n hd1 hp1 hq1
  go_enter Try.func8, Try.ntmps8
  go_wp2_with fail
  refine (near4_any _ x y u v c d p q true _ NA.out (by simp) (by first | simp | simp [go_sem]) (by first | simp | simp [go_sem]) (by first | simp | simp [go_sem]) (by first | simp | simp [go_sem]) (by first | simp | simp [go_sem]) (by first | simp | simp [go_sem]) (by first | simp | simp [go_sem]) (by first | simp | simp [go_sem])).mono ?_
  rintro e w1 ⟨rfl, h1⟩
  have z1 := h1.size
  simp at z1
  have hs : w.heap.size + 1 + 1 + 1 + 1 + 1 + 1 ≤ w1.heap.size := by omega
  have c1 : w1.cell? ⟨w.heap.size, 0, none⟩ = some (.int .i64 (x)) := (h1.cell (p := ⟨w.heap.size, 0, none⟩) (by simp; try omega)).trans (by first | simp | simp [go_sem])
  have c2 : w1.cell? ⟨w.heap.size, 1, none⟩ = some (.int .i64 (y)) := (h1.cell (p := ⟨w.heap.size, 1, none⟩) (by simp; try omega)).trans (by first | simp | simp [go_sem])
  have c3 : w1.cell? ⟨w.heap.size + 1, 0, none⟩ = some (.int .i64 (u)) := (h1.cell (p := ⟨w.heap.size + 1, 0, none⟩) (by simp; try omega)).trans (by first | simp | simp [go_sem])
  have c4 : w1.cell? ⟨w.heap.size + 1, 1, none⟩ = some (.int .i64 (v)) := (h1.cell (p := ⟨w.heap.size + 1, 1, none⟩) (by simp; try omega)).trans (by first | simp | simp [go_sem])
  have c5 : w1.cell? ⟨w.heap.size + 1 + 1, 0, none⟩ = some (.int .i64 (c)) := (h1.cell (p := ⟨w.heap.size + 1 + 1, 0, none⟩) (by simp; try omega)).trans (by first | simp | simp [go_sem])
  have c6 : w1.cell? ⟨w.heap.size + 1 + 1, 1, none⟩ = some (.int .i64 (d)) := (h1.cell (p := ⟨w.heap.size + 1 + 1, 1, none⟩) (by simp; try omega)).trans (by first | simp | simp [go_sem])
  have c7 : w1.cell? ⟨w.heap.size + 1 + 1 + 1, 0, none⟩ = some (.int .i64 (p)) := (h1.cell (p := ⟨w.heap.size + 1 + 1 + 1, 0, none⟩) (by simp; try omega)).trans (by first | simp | simp [go_sem])
  have c8 : w1.cell? ⟨w.heap.size + 1 + 1 + 1, 1, none⟩ = some (.int .i64 (q)) := (h1.cell (p := ⟨w.heap.size + 1 + 1 + 1, 1, none⟩) (by simp; try omega)).trans (by first | simp | simp [go_sem])
  have c9 : w1.cell? ⟨w.heap.size + 1 + 1 + 1 + 1, 0, none⟩ = some (.int .i64 (s)) := (h1.cell (p := ⟨w.heap.size + 1 + 1 + 1 + 1, 0, none⟩) (by simp; try omega)).trans (by first | simp | simp [go_sem])
  have c10 : w1.cell? ⟨w.heap.size + 1 + 1 + 1 + 1, 1, none⟩ = some (.int .i64 (t)) := (h1.cell (p := ⟨w.heap.size + 1 + 1 + 1 + 1, 1, none⟩) (by simp; try omega)).trans (by first | simp | simp [go_sem])
  have c11 : w1.cell? ⟨w.heap.size + 1 + 1 + 1 + 1 + 1, 0, none⟩ = some (.int .i64 (x)) := (h1.cell (p := ⟨w.heap.size + 1 + 1 + 1 + 1 + 1, 0, none⟩) (by simp; try omega)).trans (by first | simp | simp [go_sem])
  have c12 : w1.cell? ⟨w.heap.size + 1 + 1 + 1 + 1 + 1, 1, none⟩ = some (.int .i64 (y)) := (h1.cell (p := ⟨w.heap.size + 1 + 1 + 1 + 1 + 1, 1, none⟩) (by simp; try omega)).trans (by first | simp | simp [go_sem])
  have c13 : w1.cell? ⟨w.heap.size + 1 + 1 + 1 + 1 + 1, 2, none⟩ = some (.int .i64 (u)) := (h1.cell (p := ⟨w.heap.size + 1 + 1 + 1 + 1 + 1, 2, none⟩) (by simp; try omega)).trans (by first | simp | simp [go_sem])
  have c14 : w1.cell? ⟨w.heap.size + 1 + 1 + 1 + 1 + 1, 3, none⟩ = some (.int .i64 (v)) := (h1.cell (p := ⟨w.heap.size + 1 + 1 + 1 + 1 + 1, 3, none⟩) (by simp; try omega)).trans (by first | simp | simp [go_sem])
  have c15 : w1.cell? ⟨w.heap.size + 1 + 1 + 1 + 1 + 1, 4, none⟩ = some (.int .i64 (c)) := (h1.cell (p := ⟨w.heap.size + 1 + 1 + 1 + 1 + 1, 4, none⟩) (by simp; try omega)).trans (by first | simp | simp [go_sem])
  have c16 : w1.cell? ⟨w.heap.size + 1 + 1 + 1 + 1 + 1, 5, none⟩ = some (.int .i64 (d)) := (h1.cell (p := ⟨w.heap.size + 1 + 1 + 1 + 1 + 1, 5, none⟩) (by simp; try omega)).trans (by first | simp | simp [go_sem])
  have c17 : w1.cell? ⟨w.heap.size + 1 + 1 + 1 + 1 + 1, 6, none⟩ = some (.int .i64 (p)) := (h1.cell (p := ⟨w.heap.size + 1 + 1 + 1 + 1 + 1, 6, none⟩) (by simp; try omega)).trans (by first | simp | simp [go_sem])
  have c18 : w1.cell? ⟨w.heap.size + 1 + 1 + 1 + 1 + 1, 7, none⟩ = some (.int .i64 (q)) := (h1.cell (p := ⟨w.heap.size + 1 + 1 + 1 + 1 + 1, 7, none⟩) (by simp; try omega)).trans (by first | simp | simp [go_sem])
  have hb0 : Below w.heap.size w w1 := (((((((Below.refl _ _).alloc (by simp; try omega) _).alloc (by simp; try omega) _).alloc (by simp; try omega) _).alloc (by simp; try omega) _).alloc (by simp; try omega) _).alloc (by simp; try omega) _).trans (h1.mono (by simp; try omega))
  have fz : ∀ i, w1.frozen? ⟨w.heap.size + 1 + 1 + 1 + 1 + 1, i, none⟩ = false := fun i => (h1.frozen (p := ⟨w.heap.size + 1 + 1 + 1 + 1 + 1, i, none⟩) (by simp)).trans (by simp [go_sem])
  clear h1 z1
  go_wp2_with fail
  refine (near1_any _ s t true _ NB.out (by simp) (by first | simp | simp [go_sem]) (by first | simp | simp [go_sem])).mono ?_
  rintro e w2 ⟨rfl, h2⟩
  have z2 := h2.size
  simp at z2
  have d1 : w2.cell? ⟨w.heap.size, 0, none⟩ = some (.int .i64 (x)) := (h2.cell (p := ⟨w.heap.size, 0, none⟩) (by simp; omega)).trans ((World.cell?_alloc_old _ _ _ (by dsimp only; omega)).trans c1)
  have d2 : w2.cell? ⟨w.heap.size, 1, none⟩ = some (.int .i64 (y)) := (h2.cell (p := ⟨w.heap.size, 1, none⟩) (by simp; omega)).trans ((World.cell?_alloc_old _ _ _ (by dsimp only; omega)).trans c2)
  have d3 : w2.cell? ⟨w.heap.size + 1, 0, none⟩ = some (.int .i64 (u)) := (h2.cell (p := ⟨w.heap.size + 1, 0, none⟩) (by simp; omega)).trans ((World.cell?_alloc_old _ _ _ (by dsimp only; omega)).trans c3)
  have d4 : w2.cell? ⟨w.heap.size + 1, 1, none⟩ = some (.int .i64 (v)) := (h2.cell (p := ⟨w.heap.size + 1, 1, none⟩) (by simp; omega)).trans ((World.cell?_alloc_old _ _ _ (by dsimp only; omega)).trans c4)
  have d5 : w2.cell? ⟨w.heap.size + 1 + 1, 0, none⟩ = some (.int .i64 (c)) := (h2.cell (p := ⟨w.heap.size + 1 + 1, 0, none⟩) (by simp; omega)).trans ((World.cell?_alloc_old _ _ _ (by dsimp only; omega)).trans c5)
  have d6 : w2.cell? ⟨w.heap.size + 1 + 1, 1, none⟩ = some (.int .i64 (d)) := (h2.cell (p := ⟨w.heap.size + 1 + 1, 1, none⟩) (by simp; omega)).trans ((World.cell?_alloc_old _ _ _ (by dsimp only; omega)).trans c6)
  have d7 : w2.cell? ⟨w.heap.size + 1 + 1 + 1, 0, none⟩ = some (.int .i64 (p)) := (h2.cell (p := ⟨w.heap.size + 1 + 1 + 1, 0, none⟩) (by simp; omega)).trans ((World.cell?_alloc_old _ _ _ (by dsimp only; omega)).trans c7)
  have d8 : w2.cell? ⟨w.heap.size + 1 + 1 + 1, 1, none⟩ = some (.int .i64 (q)) := (h2.cell (p := ⟨w.heap.size + 1 + 1 + 1, 1, none⟩) (by simp; omega)).trans ((World.cell?_alloc_old _ _ _ (by dsimp only; omega)).trans c8)
  have d9 : w2.cell? ⟨w.heap.size + 1 + 1 + 1 + 1, 0, none⟩ = some (.int .i64 (s)) := (h2.cell (p := ⟨w.heap.size + 1 + 1 + 1 + 1, 0, none⟩) (by simp; omega)).trans ((World.cell?_alloc_old _ _ _ (by dsimp only; omega)).trans c9)
  have d10 : w2.cell? ⟨w.heap.size + 1 + 1 + 1 + 1, 1, none⟩ = some (.int .i64 (t)) := (h2.cell (p := ⟨w.heap.size + 1 + 1 + 1 + 1, 1, none⟩) (by simp; omega)).trans ((World.cell?_alloc_old _ _ _ (by dsimp only; omega)).trans c10)
  have d11 : w2.cell? ⟨w.heap.size + 1 + 1 + 1 + 1 + 1, 0, none⟩ = some (.int .i64 (x)) := (h2.cell (p := ⟨w.heap.size + 1 + 1 + 1 + 1 + 1, 0, none⟩) (by simp; omega)).trans ((World.cell?_alloc_old _ _ _ (by dsimp only; omega)).trans c11)
  have d12 : w2.cell? ⟨w.heap.size + 1 + 1 + 1 + 1 + 1, 1, none⟩ = some (.int .i64 (y)) := (h2.cell (p := ⟨w.heap.size + 1 + 1 + 1 + 1 + 1, 1, none⟩) (by simp; omega)).trans ((World.cell?_alloc_old _ _ _ (by dsimp only; omega)).trans c12)
  have d13 : w2.cell? ⟨w.heap.size + 1 + 1 + 1 + 1 + 1, 2, none⟩ = some (.int .i64 (u)) := (h2.cell (p := ⟨w.heap.size + 1 + 1 + 1 + 1 + 1, 2, none⟩) (by simp; omega)).trans ((World.cell?_alloc_old _ _ _ (by dsimp only; omega)).trans c13)
  have d14 : w2.cell? ⟨w.heap.size + 1 + 1 + 1 + 1 + 1, 3, none⟩ = some (.int .i64 (v)) := (h2.cell (p := ⟨w.heap.size + 1 + 1 + 1 + 1 + 1, 3, none⟩) (by simp; omega)).trans ((World.cell?_alloc_old _ _ _ (by dsimp only; omega)).trans c14)
  have d15 : w2.cell? ⟨w.heap.size + 1 + 1 + 1 + 1 + 1, 4, none⟩ = some (.int .i64 (c)) := (h2.cell (p := ⟨w.heap.size + 1 + 1 + 1 + 1 + 1, 4, none⟩) (by simp; omega)).trans ((World.cell?_alloc_old _ _ _ (by dsimp only; omega)).trans c15)
  have d16 : w2.cell? ⟨w.heap.size + 1 + 1 + 1 + 1 + 1, 5, none⟩ = some (.int .i64 (d)) := (h2.cell (p := ⟨w.heap.size + 1 + 1 + 1 + 1 + 1, 5, none⟩) (by simp; omega)).trans ((World.cell?_alloc_old _ _ _ (by dsimp only; omega)).trans c16)
  have d17 : w2.cell? ⟨w.heap.size + 1 + 1 + 1 + 1 + 1, 6, none⟩ = some (.int .i64 (p)) := (h2.cell (p := ⟨w.heap.size + 1 + 1 + 1 + 1 + 1, 6, none⟩) (by simp; omega)).trans ((World.cell?_alloc_old _ _ _ (by dsimp only; omega)).trans c17)
  have d18 : w2.cell? ⟨w.heap.size + 1 + 1 + 1 + 1 + 1, 7, none⟩ = some (.int .i64 (q)) := (h2.cell (p := ⟨w.heap.size + 1 + 1 + 1 + 1 + 1, 7, none⟩) (by simp; omega)).trans ((World.cell?_alloc_old _ _ _ (by dsimp only; omega)).trans c18)
  have hb1 : Below w.heap.size w w2 := (hb0.alloc (by omega) _).trans (h2.mono (by simp; omega))
  replace fz : ∀ i, w2.frozen? ⟨w.heap.size + 1 + 1 + 1 + 1 + 1, i, none⟩ = false := fun i => (h2.frozen (p := ⟨w.heap.size + 1 + 1 + 1 + 1 + 1, i, none⟩) (by simp; omega)).trans ((World.frozen?_alloc_old _ _ _ (by dsimp only; omega)).trans (fz i))
  clear hb0 h2 c1 c2 c3 c4 c5 c6 c7 c8 c9 c10 c11 c12 c13 c14 c15 c16 c17 c18
  have hb0 := hb1
  clear hb1
  have c1 := d1
  clear d1
  have c2 := d2
  clear d2
  have c3 := d3
  clear d3
  have c4 := d4
  clear d4
  have c5 := d5
  clear d5
  have c6 := d6
  clear d6
  have c7 := d7
  clear d7
  have c8 := d8
  clear d8
  have c9 := d9
  clear d9
  have c10 := d10
  clear d10
  have c11 := d11
  clear d11
  have c12 := d12
  clear d12
  have c13 := d13
  clear d13
  have c14 := d14
  clear d14
  have c15 := d15
  clear d15
  have c16 := d16
  clear d16
  have c17 := d17
  clear d17
  have c18 := d18
  clear d18
  replace hs := Nat.le_trans hs (Nat.le_trans (Nat.le_succ _) z2)
  go_wp2_with fail
  refine (shown_any _).mono ?_
  rintro e w3 ⟨rfl, h3⟩
  replace fz : ∀ i, w3.frozen? ⟨w.heap.size + 1 + 1 + 1 + 1 + 1, i, none⟩ = false := fun i => (h3.frozen (p := ⟨w.heap.size + 1 + 1 + 1 + 1 + 1, i, none⟩) (by dsimp only; omega)).trans (fz i)
  obtain ⟨d1, d2, d3, d4, d5, d6, d7, d8, d9, d10, d11, d12, d13, d14, d15, d16, d17, d18, hsz, hb1⟩ := next18 (keep18 ⟨c1, c2, c3, c4, c5, c6, c7, c8, c9, c10, c11, c12, c13, c14, c15, c16, c17, c18, Below.refl _ _⟩ h3 (by dsimp only; omega) (by dsimp only; omega) (by dsimp only; omega) (by dsimp only; omega) (by dsimp only; omega) (by dsimp only; omega) (by dsimp only; omega) (by dsimp only; omega) (by dsimp only; omega) (by dsimp only; omega) (by dsimp only; omega) (by dsimp only; omega) (by dsimp only; omega) (by dsimp only; omega) (by dsimp only; omega) (by dsimp only; omega) (by dsimp only; omega) (by dsimp only; omega)) (by omega) hb0
  clear c1 c2 c3 c4 c5 c6 c7 c8 c9 c10 c11 c12 c13 c14 c15 c16 c17 c18 hb0 h3
  have c1 := d1
  clear d1
  have c2 := d2
  clear d2
  have c3 := d3
  clear d3
  have c4 := d4
  clear d4
  have c5 := d5
  clear d5
  have c6 := d6
  clear d6
  have c7 := d7
  clear d7
  have c8 := d8
  clear d8
  have c9 := d9
  clear d9
  have c10 := d10
  clear d10
  have c11 := d11
  clear d11
  have c12 := d12
  clear d12
  have c13 := d13
  clear d13
  have c14 := d14
  clear d14
  have c15 := d15
  clear d15
  have c16 := d16
  clear d16
  have c17 := d17
  clear d17
  have c18 := d18
  clear d18
  have hb0 := hb1
  clear hb1
  replace hs := Nat.le_trans hs hsz
  clear hsz
  have SH := Lib.hid (show Sh (w.heap.size + 1 + 1 + 1 + 1 + 1) l4 w3 w3 from ⟨⟨by omega, fun i r hr => by
      rw [← HL.out] at hr
      match i, hr with
      | 0, hr => cases hr; exact ⟨c11, c12⟩
      | 1, hr => cases hr; exact ⟨c13, c14⟩
      | 2, hr => cases hr; exact ⟨c15, c16⟩
      | 3, hr => cases hr; exact ⟨c17, c18⟩
      | k + 4, hr => simp at hr⟩, fz, Below.refl _ _⟩)
  clear c11 c12 c13 c14 c15 c16 c17 c18 fz
  obtain ⟨B, hB⟩ : ∃ B, w.heap.size + 1 + 1 + 1 + 1 + 1 = B := ⟨_, rfl⟩
  have hBw : w.heap.size + 1 + 1 + 1 + 1 < B := by omega
  rw [hB] at SH
  simp only [hB]
  go_wp2
  go_loopw [12] (fun s12 wr => ∃ k : Nat, s12 = .int .i64 k ∧ k ≤ 4 ∧ Sh B (mixL (shiftL s t) l4 k) w3 wr) (fun s12 _ => 4 - (intOf s12).toNat)
  case atStart => exact ⟨0, rfl, by omega, by rw [mix_0]; exact SH.out⟩
  case round =>
    obtain ⟨k, rfl, hk, hR⟩ := hrel
    clear SH
    by_cases hlt : k < 4
    · obtain ⟨⟨a, b⟩, hp⟩ : ∃ r, l4[k]? = some r := ⟨_, List.getElem?_eq_getElem (by rw [HLL.out]; exact hlt)⟩
      have hm := mix_at (shiftL s t) hp
      have hset := mix_set (shiftL s t) hp
      obtain ⟨na1, nb1⟩ := NR.out k a b hp
      obtain ⟨ns, nt⟩ := HST.out
      have hlen : k < (mixL (shiftL s t) l4 k).length := by rw [mix_len, HLL.out]; exact hlt
      obtain ⟨a1, ha1⟩ : ∃ r, a + s = r := ⟨_, rfl⟩
      obtain ⟨b1, hb1⟩ : ∃ r, b + t = r := ⟨_, rfl⟩
      have hf : shiftL s t (a, b) = (a1, b1) := by unfold shiftL; rw [ha1, hb1]
      rw [hf] at hset
      have AD0 := fun w => r4add_any a b s t w (by omega) (by omega) (by omega) (by omega)
      simp only [ha1, hb1] at AD0
      have AD := Lib.hid AD0
      clear AD0
      obtain ⟨lk, hlk⟩ : ∃ l, mixL (shiftL s t) l4 k = l := ⟨_, rfl⟩
      rw [hlk] at hm hset hlen hR
      have HM := Lib.hid hm
      have HSET := Lib.hid hset
      have HLEN := Lib.hid hlen
      have q1 : decide ((k : Int) < 4) = true := by simp; omega
      have q2 : (0 : Int) ≤ (k : Int) := by omega
      have q3 : (k : Int) < 4 := by omega
      have e1 : IntKind.i64.wrap ((k : Int) + 1) = (k : Int) + 1 := IntWalk.i64_in _ (by omega)
      clear hp hm hset na1 nb1 ns nt hlen ha1 hb1 hf hlk
      go_upto_region 7 with fail
      have ky := hR.drew
      have k9 := (ky.bel.cell (p := ⟨w.heap.size + 1 + 1 + 1 + 1, 0, none⟩) hBw).trans c9
      have k10 := (ky.bel.cell (p := ⟨w.heap.size + 1 + 1 + 1 + 1, 1, none⟩) hBw).trans c10
      have r1 := (ky.row.2 k _ HM.out).1
      have r2 := (ky.row.2 k _ HM.out).2
      have f1 := ky.frz (k * 2)
      have f2 := ky.frz (k * 2 + 1)
      clear hR c1 c2 c3 c4 c5 c6 c7 c8 c9 c10
      go_region_with (go_at_call 28; refine (AD.out _).mono ?_; rintro e z ⟨rfl, hb⟩; have ky := Sh.step ‹_› hb; have r1 := (ky.row.2 k _ HM.out).1; have r2 := (ky.row.2 k _ HM.out).2; have f1 := ky.frz (k * 2); have f2 := ky.frz (k * 2 + 1))
      all_goals
        have hS := ky.put k a1 b1 HLEN.out
        rw [HSET.out] at hS
        go_wp2
        go_roundw
        case rel => exact ⟨k + 1, by go_num, by omega, hS⟩
        case measure => simp [intOf]; omega
    · obtain rfl : k = 4 := by omega
      have e4 : mixL (shiftL s t) l4 4 = [(x1, y1), (u1, v1), (c1n, d1), (p1, q1)] := by have h4 := mix_end (shiftL s t) l4; rw [HLL.out] at h4; rw [h4, ← HL.out]; exact FL.out
      rw [e4] at hR
      have R4 := hR
      clear hR hk hlt
      go_wp2_with fail
      refine (near5_any B 4 [(x1, y1), (u1, v1), (c1n, d1), (p1, q1)] _ R4.row (by simp) (by simp)).mono ?_
      rintro e w5 ⟨rfl, h5⟩
      rw [NZ.out]
      have ky := R4.step h5
      have hb5 := hb0.trans (ky.bel.mono (by omega))
      clear R4 h5 hb0
      go_wp2
      go_ret
      exact ⟨rfl, hb5⟩

theorem shf_main (x y u v c d p q s t : Int) (w : World) (na : allNear [(x, y), (u, v), (c, d), (p, q)] = true) (nb : allNear [(s, t)] = true) (nz0 : allNear [(x + s, y + t), (u + s, v + t), (c + s, d + t), (p + s, q + t)] = true) :
    Calls Try.prog 8 #[P2 x y, P2 u v, P2 c d, P2 p q, P2 s t] w fun e w' => e = .returned (.bool true) ∧ Below w.heap.size w w' := by
  obtain ⟨hx, hy, hu, hv, hc, hd, hp, hq⟩ := near_4 na
  obtain ⟨hs1, ht1⟩ := near_1 nb
  have nz := near_4 nz0
  obtain ⟨kx, ky, ku, kv, kc, kd, kp, kq⟩ := nz
  have es := side_shift x y u v p q s t
  have eb := between_shift x y u v p q s t
  have ew := within_shift x y u v c d p q s t
  obtain ⟨x1, hx1⟩ : ∃ x1, x + s = x1 := ⟨_, rfl⟩
  obtain ⟨y1, hy1⟩ : ∃ y1, y + t = y1 := ⟨_, rfl⟩
  obtain ⟨u1, hu1⟩ : ∃ u1, u + s = u1 := ⟨_, rfl⟩
  obtain ⟨v1, hv1⟩ : ∃ v1, v + t = v1 := ⟨_, rfl⟩
  obtain ⟨c1n, hc1n⟩ : ∃ c1n, c + s = c1n := ⟨_, rfl⟩
  obtain ⟨d1, hd1⟩ : ∃ d1, d + t = d1 := ⟨_, rfl⟩
  obtain ⟨p1, hp1⟩ : ∃ p1, p + s = p1 := ⟨_, rfl⟩
  obtain ⟨q1, hq1⟩ : ∃ q1, q + t = q1 := ⟨_, rfl⟩
  simp only [hx1, hy1, hu1, hv1, hc1n, hd1, hp1, hq1] at nz0
  simp only [hx1, hy1, hu1, hv1, hc1n, hd1, hp1, hq1] at es eb ew kx ky ku kv kc kd kp kq
  obtain ⟨sv, hsv⟩ : ∃ sv, sideV x y u v p q = sv := ⟨_, rfl⟩
  obtain ⟨bv, hbv⟩ : ∃ bv, betweenV x y u v p q = bv := ⟨_, rfl⟩
  obtain ⟨wv, hwv⟩ : ∃ wv, withinV x y u v c d p q = wv := ⟨_, rfl⟩
  rw [hsv] at es
  rw [hbv] at eb
  rw [hwv] at ew
  have SA0 := fun w => side_any x1 y1 u1 v1 p1 q1 w kx ky ku kv kp kq
  simp only [es] at SA0
  have SA := Lib.hid SA0
  clear SA0
  have SB0 := fun w => side_any x y u v p q w hx hy hu hv hp hq
  simp only [hsv] at SB0
  have SB := Lib.hid SB0
  clear SB0
  have BA0 := fun w => between_any x1 y1 u1 v1 p1 q1 w kx ky ku kv kp kq
  simp only [eb] at BA0
  have BA := Lib.hid BA0
  clear BA0
  have BB0 := fun w => between_any x y u v p q w hx hy hu hv hp hq
  simp only [hbv] at BB0
  have BB := Lib.hid BB0
  clear BB0
  have WA0 := fun w => within_any x1 y1 u1 v1 c1n d1 p1 q1 w kx ky ku kv kc kd kp kq
  simp only [ew] at WA0
  have WA := Lib.hid WA0
  clear WA0
  have WB0 := fun w => within_any x y u v c d p q w hx hy hu hv hc hd hp hq
  simp only [hwv] at WB0
  have WB := Lib.hid WB0
  clear WB0
  clear hsv hbv hwv es eb ew kx ky ku kv kc kd kp kq
  have FL := Lib.hid (show ([(x, y), (u, v), (c, d), (p, q)] : List (Int × Int)).map (shiftL s t) = [(x1, y1), (u1, v1), (c1n, d1), (p1, q1)] by simp only [List.map_cons, List.map_nil, shiftL, hx1, hy1, hu1, hv1, hc1n, hd1, hp1, hq1])
  obtain ⟨l4, hl4⟩ : ∃ l : List (Int × Int), [(x, y), (u, v), (c, d), (p, q)] = l := ⟨_, rfl⟩
  have HL := Lib.hid hl4
  have HLL := Lib.hid (show l4.length = 4 by rw [← hl4]; rfl)
  have NR := Lib.hid (show ∀ (k : Nat) (a b : Int), l4[k]? = some (a, b) → (-1073741824 ≤ a ∧ a ≤ 1073741824) ∧ (-1073741824 ≤ b ∧ b ≤ 1073741824) from fun k a b hk => nearB_iff.1 (List.all_eq_true.1 (show allNear l4 = true by rw [← hl4]; exact na) _ (List.mem_of_getElem? hk)))
  have HST := Lib.hid (And.intro hs1 ht1)
  have NA := Lib.hid na
  have NB := Lib.hid nb
  have NZ := Lib.hid nz0
  clear na nb nz0 hl4 hx hy hu hv hc hd hp hq hs1 ht1 hx1 hy1 hu1 hv1 hc1n hd1 hp1 hq1
  go_enter Try.func8, Try.ntmps8
  go_wp2_with fail
  refine (near4_any _ x y u v c d p q true _ NA.out (by simp) (by first | simp | simp [go_sem]) (by first | simp | simp [go_sem]) (by first | simp | simp [go_sem]) (by first | simp | simp [go_sem]) (by first | simp | simp [go_sem]) (by first | simp | simp [go_sem]) (by first | simp | simp [go_sem]) (by first | simp | simp [go_sem])).mono ?_
  rintro e w1 ⟨rfl, h1⟩
  have z1 := h1.size
  simp at z1
  have hs : w.heap.size + 1 + 1 + 1 + 1 + 1 + 1 ≤ w1.heap.size := by omega
  have c1 : w1.cell? ⟨w.heap.size, 0, none⟩ = some (.int .i64 (x)) := (h1.cell (p := ⟨w.heap.size, 0, none⟩) (by simp; try omega)).trans (by first | simp | simp [go_sem])
  have c2 : w1.cell? ⟨w.heap.size, 1, none⟩ = some (.int .i64 (y)) := (h1.cell (p := ⟨w.heap.size, 1, none⟩) (by simp; try omega)).trans (by first | simp | simp [go_sem])
  have c3 : w1.cell? ⟨w.heap.size + 1, 0, none⟩ = some (.int .i64 (u)) := (h1.cell (p := ⟨w.heap.size + 1, 0, none⟩) (by simp; try omega)).trans (by first | simp | simp [go_sem])
  have c4 : w1.cell? ⟨w.heap.size + 1, 1, none⟩ = some (.int .i64 (v)) := (h1.cell (p := ⟨w.heap.size + 1, 1, none⟩) (by simp; try omega)).trans (by first | simp | simp [go_sem])
  have c5 : w1.cell? ⟨w.heap.size + 1 + 1, 0, none⟩ = some (.int .i64 (c)) := (h1.cell (p := ⟨w.heap.size + 1 + 1, 0, none⟩) (by simp; try omega)).trans (by first | simp | simp [go_sem])
  have c6 : w1.cell? ⟨w.heap.size + 1 + 1, 1, none⟩ = some (.int .i64 (d)) := (h1.cell (p := ⟨w.heap.size + 1 + 1, 1, none⟩) (by simp; try omega)).trans (by first | simp | simp [go_sem])
  have c7 : w1.cell? ⟨w.heap.size + 1 + 1 + 1, 0, none⟩ = some (.int .i64 (p)) := (h1.cell (p := ⟨w.heap.size + 1 + 1 + 1, 0, none⟩) (by simp; try omega)).trans (by first | simp | simp [go_sem])
  have c8 : w1.cell? ⟨w.heap.size + 1 + 1 + 1, 1, none⟩ = some (.int .i64 (q)) := (h1.cell (p := ⟨w.heap.size + 1 + 1 + 1, 1, none⟩) (by simp; try omega)).trans (by first | simp | simp [go_sem])
  have c9 : w1.cell? ⟨w.heap.size + 1 + 1 + 1 + 1, 0, none⟩ = some (.int .i64 (s)) := (h1.cell (p := ⟨w.heap.size + 1 + 1 + 1 + 1, 0, none⟩) (by simp; try omega)).trans (by first | simp | simp [go_sem])
  have c10 : w1.cell? ⟨w.heap.size + 1 + 1 + 1 + 1, 1, none⟩ = some (.int .i64 (t)) := (h1.cell (p := ⟨w.heap.size + 1 + 1 + 1 + 1, 1, none⟩) (by simp; try omega)).trans (by first | simp | simp [go_sem])
  have c11 : w1.cell? ⟨w.heap.size + 1 + 1 + 1 + 1 + 1, 0, none⟩ = some (.int .i64 (x)) := (h1.cell (p := ⟨w.heap.size + 1 + 1 + 1 + 1 + 1, 0, none⟩) (by simp; try omega)).trans (by first | simp | simp [go_sem])
  have c12 : w1.cell? ⟨w.heap.size + 1 + 1 + 1 + 1 + 1, 1, none⟩ = some (.int .i64 (y)) := (h1.cell (p := ⟨w.heap.size + 1 + 1 + 1 + 1 + 1, 1, none⟩) (by simp; try omega)).trans (by first | simp | simp [go_sem])
  have c13 : w1.cell? ⟨w.heap.size + 1 + 1 + 1 + 1 + 1, 2, none⟩ = some (.int .i64 (u)) := (h1.cell (p := ⟨w.heap.size + 1 + 1 + 1 + 1 + 1, 2, none⟩) (by simp; try omega)).trans (by first | simp | simp [go_sem])
  have c14 : w1.cell? ⟨w.heap.size + 1 + 1 + 1 + 1 + 1, 3, none⟩ = some (.int .i64 (v)) := (h1.cell (p := ⟨w.heap.size + 1 + 1 + 1 + 1 + 1, 3, none⟩) (by simp; try omega)).trans (by first | simp | simp [go_sem])
  have c15 : w1.cell? ⟨w.heap.size + 1 + 1 + 1 + 1 + 1, 4, none⟩ = some (.int .i64 (c)) := (h1.cell (p := ⟨w.heap.size + 1 + 1 + 1 + 1 + 1, 4, none⟩) (by simp; try omega)).trans (by first | simp | simp [go_sem])
  have c16 : w1.cell? ⟨w.heap.size + 1 + 1 + 1 + 1 + 1, 5, none⟩ = some (.int .i64 (d)) := (h1.cell (p := ⟨w.heap.size + 1 + 1 + 1 + 1 + 1, 5, none⟩) (by simp; try omega)).trans (by first | simp | simp [go_sem])
  have c17 : w1.cell? ⟨w.heap.size + 1 + 1 + 1 + 1 + 1, 6, none⟩ = some (.int .i64 (p)) := (h1.cell (p := ⟨w.heap.size + 1 + 1 + 1 + 1 + 1, 6, none⟩) (by simp; try omega)).trans (by first | simp | simp [go_sem])
  have c18 : w1.cell? ⟨w.heap.size + 1 + 1 + 1 + 1 + 1, 7, none⟩ = some (.int .i64 (q)) := (h1.cell (p := ⟨w.heap.size + 1 + 1 + 1 + 1 + 1, 7, none⟩) (by simp; try omega)).trans (by first | simp | simp [go_sem])
  have hb0 : Below w.heap.size w w1 := (((((((Below.refl _ _).alloc (by simp; try omega) _).alloc (by simp; try omega) _).alloc (by simp; try omega) _).alloc (by simp; try omega) _).alloc (by simp; try omega) _).alloc (by simp; try omega) _).trans (h1.mono (by simp; try omega))
  have fz : ∀ i, w1.frozen? ⟨w.heap.size + 1 + 1 + 1 + 1 + 1, i, none⟩ = false := fun i => (h1.frozen (p := ⟨w.heap.size + 1 + 1 + 1 + 1 + 1, i, none⟩) (by simp)).trans (by simp [go_sem])
  clear h1 z1
  go_wp2_with fail
  refine (near1_any _ s t true _ NB.out (by simp) (by first | simp | simp [go_sem]) (by first | simp | simp [go_sem])).mono ?_
  rintro e w2 ⟨rfl, h2⟩
  have z2 := h2.size
  simp at z2
  have d1 : w2.cell? ⟨w.heap.size, 0, none⟩ = some (.int .i64 (x)) := (h2.cell (p := ⟨w.heap.size, 0, none⟩) (by simp; omega)).trans ((World.cell?_alloc_old _ _ _ (by dsimp only; omega)).trans c1)
  have d2 : w2.cell? ⟨w.heap.size, 1, none⟩ = some (.int .i64 (y)) := (h2.cell (p := ⟨w.heap.size, 1, none⟩) (by simp; omega)).trans ((World.cell?_alloc_old _ _ _ (by dsimp only; omega)).trans c2)
  have d3 : w2.cell? ⟨w.heap.size + 1, 0, none⟩ = some (.int .i64 (u)) := (h2.cell (p := ⟨w.heap.size + 1, 0, none⟩) (by simp; omega)).trans ((World.cell?_alloc_old _ _ _ (by dsimp only; omega)).trans c3)
  have d4 : w2.cell? ⟨w.heap.size + 1, 1, none⟩ = some (.int .i64 (v)) := (h2.cell (p := ⟨w.heap.size + 1, 1, none⟩) (by simp; omega)).trans ((World.cell?_alloc_old _ _ _ (by dsimp only; omega)).trans c4)
  have d5 : w2.cell? ⟨w.heap.size + 1 + 1, 0, none⟩ = some (.int .i64 (c)) := (h2.cell (p := ⟨w.heap.size + 1 + 1, 0, none⟩) (by simp; omega)).trans ((World.cell?_alloc_old _ _ _ (by dsimp only; omega)).trans c5)
  have d6 : w2.cell? ⟨w.heap.size + 1 + 1, 1, none⟩ = some (.int .i64 (d)) := (h2.cell (p := ⟨w.heap.size + 1 + 1, 1, none⟩) (by simp; omega)).trans ((World.cell?_alloc_old _ _ _ (by dsimp only; omega)).trans c6)
  have d7 : w2.cell? ⟨w.heap.size + 1 + 1 + 1, 0, none⟩ = some (.int .i64 (p)) := (h2.cell (p := ⟨w.heap.size + 1 + 1 + 1, 0, none⟩) (by simp; omega)).trans ((World.cell?_alloc_old _ _ _ (by dsimp only; omega)).trans c7)
  have d8 : w2.cell? ⟨w.heap.size + 1 + 1 + 1, 1, none⟩ = some (.int .i64 (q)) := (h2.cell (p := ⟨w.heap.size + 1 + 1 + 1, 1, none⟩) (by simp; omega)).trans ((World.cell?_alloc_old _ _ _ (by dsimp only; omega)).trans c8)
  have d9 : w2.cell? ⟨w.heap.size + 1 + 1 + 1 + 1, 0, none⟩ = some (.int .i64 (s)) := (h2.cell (p := ⟨w.heap.size + 1 + 1 + 1 + 1, 0, none⟩) (by simp; omega)).trans ((World.cell?_alloc_old _ _ _ (by dsimp only; omega)).trans c9)
  have d10 : w2.cell? ⟨w.heap.size + 1 + 1 + 1 + 1, 1, none⟩ = some (.int .i64 (t)) := (h2.cell (p := ⟨w.heap.size + 1 + 1 + 1 + 1, 1, none⟩) (by simp; omega)).trans ((World.cell?_alloc_old _ _ _ (by dsimp only; omega)).trans c10)
  have d11 : w2.cell? ⟨w.heap.size + 1 + 1 + 1 + 1 + 1, 0, none⟩ = some (.int .i64 (x)) := (h2.cell (p := ⟨w.heap.size + 1 + 1 + 1 + 1 + 1, 0, none⟩) (by simp; omega)).trans ((World.cell?_alloc_old _ _ _ (by dsimp only; omega)).trans c11)
  have d12 : w2.cell? ⟨w.heap.size + 1 + 1 + 1 + 1 + 1, 1, none⟩ = some (.int .i64 (y)) := (h2.cell (p := ⟨w.heap.size + 1 + 1 + 1 + 1 + 1, 1, none⟩) (by simp; omega)).trans ((World.cell?_alloc_old _ _ _ (by dsimp only; omega)).trans c12)
  have d13 : w2.cell? ⟨w.heap.size + 1 + 1 + 1 + 1 + 1, 2, none⟩ = some (.int .i64 (u)) := (h2.cell (p := ⟨w.heap.size + 1 + 1 + 1 + 1 + 1, 2, none⟩) (by simp; omega)).trans ((World.cell?_alloc_old _ _ _ (by dsimp only; omega)).trans c13)
  have d14 : w2.cell? ⟨w.heap.size + 1 + 1 + 1 + 1 + 1, 3, none⟩ = some (.int .i64 (v)) := (h2.cell (p := ⟨w.heap.size + 1 + 1 + 1 + 1 + 1, 3, none⟩) (by simp; omega)).trans ((World.cell?_alloc_old _ _ _ (by dsimp only; omega)).trans c14)
  have d15 : w2.cell? ⟨w.heap.size + 1 + 1 + 1 + 1 + 1, 4, none⟩ = some (.int .i64 (c)) := (h2.cell (p := ⟨w.heap.size + 1 + 1 + 1 + 1 + 1, 4, none⟩) (by simp; omega)).trans ((World.cell?_alloc_old _ _ _ (by dsimp only; omega)).trans c15)
  have d16 : w2.cell? ⟨w.heap.size + 1 + 1 + 1 + 1 + 1, 5, none⟩ = some (.int .i64 (d)) := (h2.cell (p := ⟨w.heap.size + 1 + 1 + 1 + 1 + 1, 5, none⟩) (by simp; omega)).trans ((World.cell?_alloc_old _ _ _ (by dsimp only; omega)).trans c16)
  have d17 : w2.cell? ⟨w.heap.size + 1 + 1 + 1 + 1 + 1, 6, none⟩ = some (.int .i64 (p)) := (h2.cell (p := ⟨w.heap.size + 1 + 1 + 1 + 1 + 1, 6, none⟩) (by simp; omega)).trans ((World.cell?_alloc_old _ _ _ (by dsimp only; omega)).trans c17)
  have d18 : w2.cell? ⟨w.heap.size + 1 + 1 + 1 + 1 + 1, 7, none⟩ = some (.int .i64 (q)) := (h2.cell (p := ⟨w.heap.size + 1 + 1 + 1 + 1 + 1, 7, none⟩) (by simp; omega)).trans ((World.cell?_alloc_old _ _ _ (by dsimp only; omega)).trans c18)
  have hb1 : Below w.heap.size w w2 := (hb0.alloc (by omega) _).trans (h2.mono (by simp; omega))
  replace fz : ∀ i, w2.frozen? ⟨w.heap.size + 1 + 1 + 1 + 1 + 1, i, none⟩ = false := fun i => (h2.frozen (p := ⟨w.heap.size + 1 + 1 + 1 + 1 + 1, i, none⟩) (by simp; omega)).trans ((World.frozen?_alloc_old _ _ _ (by dsimp only; omega)).trans (fz i))
  clear hb0 h2 c1 c2 c3 c4 c5 c6 c7 c8 c9 c10 c11 c12 c13 c14 c15 c16 c17 c18
  have hb0 := hb1
  clear hb1
  have c1 := d1
  clear d1
  have c2 := d2
  clear d2
  have c3 := d3
  clear d3
  have c4 := d4
  clear d4
  have c5 := d5
  clear d5
  have c6 := d6
  clear d6
  have c7 := d7
  clear d7
  have c8 := d8
  clear d8
  have c9 := d9
  clear d9
  have c10 := d10
  clear d10
  have c11 := d11
  clear d11
  have c12 := d12
  clear d12
  have c13 := d13
  clear d13
  have c14 := d14
  clear d14
  have c15 := d15
  clear d15
  have c16 := d16
  clear d16
  have c17 := d17
  clear d17
  have c18 := d18
  clear d18
  replace hs := Nat.le_trans hs (Nat.le_trans (Nat.le_succ _) z2)
  go_wp2_with fail
  refine (shown_any _).mono ?_
  rintro e w3 ⟨rfl, h3⟩
  replace fz : ∀ i, w3.frozen? ⟨w.heap.size + 1 + 1 + 1 + 1 + 1, i, none⟩ = false := fun i => (h3.frozen (p := ⟨w.heap.size + 1 + 1 + 1 + 1 + 1, i, none⟩) (by dsimp only; omega)).trans (fz i)
  obtain ⟨d1, d2, d3, d4, d5, d6, d7, d8, d9, d10, d11, d12, d13, d14, d15, d16, d17, d18, hsz, hb1⟩ := next18 (keep18 ⟨c1, c2, c3, c4, c5, c6, c7, c8, c9, c10, c11, c12, c13, c14, c15, c16, c17, c18, Below.refl _ _⟩ h3 (by dsimp only; omega) (by dsimp only; omega) (by dsimp only; omega) (by dsimp only; omega) (by dsimp only; omega) (by dsimp only; omega) (by dsimp only; omega) (by dsimp only; omega) (by dsimp only; omega) (by dsimp only; omega) (by dsimp only; omega) (by dsimp only; omega) (by dsimp only; omega) (by dsimp only; omega) (by dsimp only; omega) (by dsimp only; omega) (by dsimp only; omega) (by dsimp only; omega)) (by omega) hb0
  clear c1 c2 c3 c4 c5 c6 c7 c8 c9 c10 c11 c12 c13 c14 c15 c16 c17 c18 hb0 h3
  have c1 := d1
  clear d1
  have c2 := d2
  clear d2
  have c3 := d3
  clear d3
  have c4 := d4
  clear d4
  have c5 := d5
  clear d5
  have c6 := d6
  clear d6
  have c7 := d7
  clear d7
  have c8 := d8
  clear d8
  have c9 := d9
  clear d9
  have c10 := d10
  clear d10
  have c11 := d11
  clear d11
  have c12 := d12
  clear d12
  have c13 := d13
  clear d13
  have c14 := d14
  clear d14
  have c15 := d15
  clear d15
  have c16 := d16
  clear d16
  have c17 := d17
  clear d17
  have c18 := d18
  clear d18
  have hb0 := hb1
  clear hb1
  replace hs := Nat.le_trans hs hsz
  clear hsz
  have SH := Lib.hid (show Sh (w.heap.size + 1 + 1 + 1 + 1 + 1) l4 w3 w3 from ⟨⟨by omega, fun i r hr => by
      rw [← HL.out] at hr
      match i, hr with
      | 0, hr => cases hr; exact ⟨c11, c12⟩
      | 1, hr => cases hr; exact ⟨c13, c14⟩
      | 2, hr => cases hr; exact ⟨c15, c16⟩
      | 3, hr => cases hr; exact ⟨c17, c18⟩
      | k + 4, hr => simp at hr⟩, fz, Below.refl _ _⟩)
  clear c11 c12 c13 c14 c15 c16 c17 c18 fz
  obtain ⟨B, hB⟩ : ∃ B, w.heap.size + 1 + 1 + 1 + 1 + 1 = B := ⟨_, rfl⟩
  have hBw : w.heap.size + 1 + 1 + 1 + 1 < B := by omega
  rw [hB] at SH
  simp only [hB]
  go_wp2
  go_loopw [12] (fun s12 wr => ∃ k : Nat, s12 = .int .i64 k ∧ k ≤ 4 ∧ Sh B (mixL (shiftL s t) l4 k) w3 wr) (fun s12 _ => 4 - (intOf s12).toNat)
  case atStart => exact ⟨0, rfl, by omega, by rw [mix_0]; exact SH.out⟩
  case round =>
    obtain ⟨k, rfl, hk, hR⟩ := hrel
    clear SH
    by_cases hlt : k < 4
    · obtain ⟨⟨a, b⟩, hp⟩ : ∃ r, l4[k]? = some r := ⟨_, List.getElem?_eq_getElem (by rw [HLL.out]; exact hlt)⟩
      have hm := mix_at (shiftL s t) hp
      have hset := mix_set (shiftL s t) hp
      obtain ⟨na1, nb1⟩ := NR.out k a b hp
      obtain ⟨ns, nt⟩ := HST.out
      have hlen : k < (mixL (shiftL s t) l4 k).length := by rw [mix_len, HLL.out]; exact hlt
      obtain ⟨a1, ha1⟩ : ∃ r, a + s = r := ⟨_, rfl⟩
      obtain ⟨b1, hb1⟩ : ∃ r, b + t = r := ⟨_, rfl⟩
      have hf : shiftL s t (a, b) = (a1, b1) := by unfold shiftL; rw [ha1, hb1]
      rw [hf] at hset
      have AD0 := fun w => r4add_any a b s t w (by omega) (by omega) (by omega) (by omega)
      simp only [ha1, hb1] at AD0
      have AD := Lib.hid AD0
      clear AD0
      obtain ⟨lk, hlk⟩ : ∃ l, mixL (shiftL s t) l4 k = l := ⟨_, rfl⟩
      rw [hlk] at hm hset hlen hR
      have HM := Lib.hid hm
      have HSET := Lib.hid hset
      have HLEN := Lib.hid hlen
      have q1 : decide ((k : Int) < 4) = true := by simp; omega
      have q2 : (0 : Int) ≤ (k : Int) := by omega
      have q3 : (k : Int) < 4 := by omega
      have e1 : IntKind.i64.wrap ((k : Int) + 1) = (k : Int) + 1 := IntWalk.i64_in _ (by omega)
      clear hp hm hset na1 nb1 ns nt hlen ha1 hb1 hf hlk
      go_upto_region 7 with fail
      have ky := hR.drew
      have k9 := (ky.bel.cell (p := ⟨w.heap.size + 1 + 1 + 1 + 1, 0, none⟩) hBw).trans c9
      have k10 := (ky.bel.cell (p := ⟨w.heap.size + 1 + 1 + 1 + 1, 1, none⟩) hBw).trans c10
      have r1 := (ky.row.2 k _ HM.out).1
      have r2 := (ky.row.2 k _ HM.out).2
      have f1 := ky.frz (k * 2)
      have f2 := ky.frz (k * 2 + 1)
      clear hR c1 c2 c3 c4 c5 c6 c7 c8 c9 c10
      go_region_with (go_at_call 28; refine (AD.out _).mono ?_; rintro e z ⟨rfl, hb⟩; have ky := Sh.step ‹_› hb; have r1 := (ky.row.2 k _ HM.out).1; have r2 := (ky.row.2 k _ HM.out).2; have f1 := ky.frz (k * 2); have f2 := ky.frz (k * 2 + 1))
      all_goals
        have hS := ky.put k a1 b1 HLEN.out
        rw [HSET.out] at hS
        go_wp2
        go_roundw
        case rel => exact ⟨k + 1, by go_num, by omega, hS⟩
        case measure => simp [intOf]; omega
    · obtain rfl : k = 4 := by omega
      have e4 : mixL (shiftL s t) l4 4 = [(x1, y1), (u1, v1), (c1n, d1), (p1, q1)] := by have h4 := mix_end (shiftL s t) l4; rw [HLL.out] at h4; rw [h4, ← HL.out]; exact FL.out
      rw [e4] at hR
      have R4 := hR
      clear hR hk hlt
      go_wp2_with fail
      refine (near5_any B 4 [(x1, y1), (u1, v1), (c1n, d1), (p1, q1)] _ R4.row (by simp) (by simp)).mono ?_
      rintro e w5 ⟨rfl, h5⟩
      rw [NZ.out]
      have ky := R4.step h5
      have hb5 := hb0.trans (ky.bel.mono (by omega))
      clear R4 h5 hb0 c9 c10
      replace c1 := (ky.bel.cell (p := ⟨w.heap.size, 0, none⟩) (by dsimp only; omega)).trans c1
      replace c2 := (ky.bel.cell (p := ⟨w.heap.size, 1, none⟩) (by dsimp only; omega)).trans c2
      replace c3 := (ky.bel.cell (p := ⟨w.heap.size + 1, 0, none⟩) (by dsimp only; omega)).trans c3
      replace c4 := (ky.bel.cell (p := ⟨w.heap.size + 1, 1, none⟩) (by dsimp only; omega)).trans c4
      replace c5 := (ky.bel.cell (p := ⟨w.heap.size + 1 + 1, 0, none⟩) (by dsimp only; omega)).trans c5
      replace c6 := (ky.bel.cell (p := ⟨w.heap.size + 1 + 1, 1, none⟩) (by dsimp only; omega)).trans c6
      replace c7 := (ky.bel.cell (p := ⟨w.heap.size + 1 + 1 + 1, 0, none⟩) (by dsimp only; omega)).trans c7
      replace c8 := (ky.bel.cell (p := ⟨w.heap.size + 1 + 1 + 1, 1, none⟩) (by dsimp only; omega)).trans c8
      have c9 := (ky.row.2 0 _ rfl).1
      have c10 := (ky.row.2 0 _ rfl).2
      have c11 := (ky.row.2 1 _ rfl).1
      have c12 := (ky.row.2 1 _ rfl).2
      have c13 := (ky.row.2 2 _ rfl).1
      have c14 := (ky.row.2 2 _ rfl).2
      have c15 := (ky.row.2 3 _ rfl).1
      have c16 := (ky.row.2 3 _ rfl).2
      have hB5 := ky.row.1
      clear ky
      go_wp2_with fail
      first | (go_region_held3 (fun w' => w'.cell? ⟨w.heap.size, 0, none⟩ = some (.int .i64 (x)) ∧ w'.cell? ⟨w.heap.size, 1, none⟩ = some (.int .i64 (y)) ∧ w'.cell? ⟨w.heap.size + 1, 0, none⟩ = some (.int .i64 (u)) ∧ w'.cell? ⟨w.heap.size + 1, 1, none⟩ = some (.int .i64 (v)) ∧ w'.cell? ⟨w.heap.size + 1 + 1, 0, none⟩ = some (.int .i64 (c)) ∧ w'.cell? ⟨w.heap.size + 1 + 1, 1, none⟩ = some (.int .i64 (d)) ∧ w'.cell? ⟨w.heap.size + 1 + 1 + 1, 0, none⟩ = some (.int .i64 (p)) ∧ w'.cell? ⟨w.heap.size + 1 + 1 + 1, 1, none⟩ = some (.int .i64 (q)) ∧ w'.cell? ⟨B, 0, none⟩ = some (.int .i64 (x1)) ∧ w'.cell? ⟨B, 1, none⟩ = some (.int .i64 (y1)) ∧ w'.cell? ⟨B, 2, none⟩ = some (.int .i64 (u1)) ∧ w'.cell? ⟨B, 3, none⟩ = some (.int .i64 (v1)) ∧ w'.cell? ⟨B, 4, none⟩ = some (.int .i64 (c1n)) ∧ w'.cell? ⟨B, 5, none⟩ = some (.int .i64 (d1)) ∧ w'.cell? ⟨B, 6, none⟩ = some (.int .i64 (p1)) ∧ w'.cell? ⟨B, 7, none⟩ = some (.int .i64 (q1)) ∧ Below w5.heap.size w5 w') ((first | assumption | exact ⟨by simp [*], by simp [*], by simp [*], by simp [*], by simp [*], by simp [*], by simp [*], by simp [*], by simp [*], by simp [*], by simp [*], by simp [*], by simp [*], by simp [*], by simp [*], by simp [*], (Below.refl _ _).drew⟩ | exact keep16 ‹_› hb (by dsimp only; omega) (by dsimp only; omega) (by dsimp only; omega) (by dsimp only; omega) (by dsimp only; omega) (by dsimp only; omega) (by dsimp only; omega) (by dsimp only; omega) (by dsimp only; omega) (by dsimp only; omega) (by dsimp only; omega) (by dsimp only; omega) (by dsimp only; omega) (by dsimp only; omega) (by dsimp only; omega) (by dsimp only; omega) | exact keepA16 ‹_› _ (by dsimp only; omega) (by dsimp only; omega) (by dsimp only; omega) (by dsimp only; omega) (by dsimp only; omega) (by dsimp only; omega) (by dsimp only; omega) (by dsimp only; omega) (by dsimp only; omega) (by dsimp only; omega) (by dsimp only; omega) (by dsimp only; omega) (by dsimp only; omega) (by dsimp only; omega) (by dsimp only; omega) (by dsimp only; omega) | exact keepS16 (keepS16 ‹_› _ _ (by dsimp only; omega) (by dsimp only; omega) (by dsimp only; omega) (by dsimp only; omega) (by dsimp only; omega) (by dsimp only; omega) (by dsimp only; omega) (by dsimp only; omega) (by dsimp only; omega) (by dsimp only; omega) (by dsimp only; omega) (by dsimp only; omega) (by dsimp only; omega) (by dsimp only; omega) (by dsimp only; omega) (by dsimp only; omega) (by dsimp only; omega)) _ _ (by dsimp only; omega) (by dsimp only; omega) (by dsimp only; omega) (by dsimp only; omega) (by dsimp only; omega) (by dsimp only; omega) (by dsimp only; omega) (by dsimp only; omega) (by dsimp only; omega) (by dsimp only; omega) (by dsimp only; omega) (by dsimp only; omega) (by dsimp only; omega) (by dsimp only; omega) (by dsimp only; omega) (by dsimp only; omega) (by dsimp only; omega))) ((first | (go_at_call 12; with_reducible refine (SA.out _).mono ?_; rintro e w' ⟨rfl, hb⟩) | (go_at_call 12; with_reducible refine (SB.out _).mono ?_; rintro e w' ⟨rfl, hb⟩) | (go_at_call 14; with_reducible refine (BA.out _).mono ?_; rintro e w' ⟨rfl, hb⟩) | (go_at_call 14; with_reducible refine (BB.out _).mono ?_; rintro e w' ⟨rfl, hb⟩) | (go_at_call 16; with_reducible refine (WA.out _).mono ?_; rintro e w' ⟨rfl, hb⟩) | (go_at_call 16; with_reducible refine (WB.out _).mono ?_; rintro e w' ⟨rfl, hb⟩)))) | fail
      all_goals
        have hF := belK16 ‹_ ∧ _ ∧ _ ∧ _ ∧ _ ∧ _ ∧ _ ∧ _ ∧ _ ∧ _ ∧ _ ∧ _ ∧ _ ∧ _ ∧ _ ∧ _ ∧ Below w5.heap.size w5 _›
        go_wp2
        go_ret
        exact ⟨by first | rfl | simp, hb5.trans (hF.mono (by omega))⟩

theorem walk_SignShift (x y u v c d p q s t : Int) (w : World) :
    Calls Try.prog 8 #[P2 x y, P2 u v, P2 c d, P2 p q, P2 s t] w fun e w' => e = .returned (.bool true) ∧ Below w.heap.size w w' := by
  cases na : allNear [(x, y), (u, v), (c, d), (p, q)] with
  | false => exact shf_far _ _ _ _ _ _ _ _ _ _ w na
  | true =>
    cases nb : allNear [(s, t)] with
    | false => exact shf_by _ _ _ _ _ _ _ _ _ _ w na nb
    | true =>
      cases nz : allNear [(x + s, y + t), (u + s, v + t), (c + s, d + t), (p + s, q + t)] with
      | false => exact shf_off _ _ _ _ _ _ _ _ _ _ w na nb nz
      | true => exact shf_main _ _ _ _ _ _ _ _ _ _ w na nb nz
end Go.Proofs.Ytfgkndfcddnhlaa
