/- What the document's own layer 5 answers: Between, Within. -/
import Derived.Test.YtlgfnhapjhoelaaRef5
namespace Go.Proofs.Ytlgfnhapjhoelaa
open Go.RowKit
set_option linter.unusedVariables false
set_option linter.unusedSimpArgs false
set_option maxHeartbeats 4000000
set_option maxRecDepth 100000

/-- The box of two numbers by the lesser and the greater one. -/
theorem in1_box (a b p : Int) : In1 a b p ↔ ((if b < a then b else a) ≤ p ∧ p ≤ (if a < b then b else a)) := by
  unfold In1; split <;> split <;> omega
theorem between_is (x y u v z t : Int) : betweenV x y u v z t = decide (sideV x y u v z t = 0 ∧ ((if u < x then u else x) ≤ z ∧ z ≤ (if x < u then u else x)) ∧ ((if v < y then v else y) ≤ t ∧ t ≤ (if y < v then v else y))) := by
  unfold betweenV
  rw [decide_eq_decide]
  unfold Btw
  rw [← in1_box, ← in1_box]
  rcases sideV_cases x y u v z t with h | h | h <;> constructor <;> rintro ⟨h1, h2, h3⟩ <;> first | omega | exact ⟨by omega, h2, h3⟩
theorem r5between_any (x y u v z t : Int) (w : World) (hx : -1073741824 ≤ x ∧ x ≤ 1073741824) (hy : -1073741824 ≤ y ∧ y ≤ 1073741824) (hu : -1073741824 ≤ u ∧ u ≤ 1073741824) (hv : -1073741824 ≤ v ∧ v ≤ 1073741824) (hz : -1073741824 ≤ z ∧ z ≤ 1073741824) (ht : -1073741824 ≤ t ∧ t ≤ 1073741824) :
    Calls Try.prog 41 #[P2 x y, P2 u v, P2 z t] w fun e w' => e = .returned (.bool (betweenV x y u v z t)) ∧ Below w.heap.size w w' := by
  have HB := between_is x y u v z t
  obtain ⟨s, hs⟩ : ∃ s, sideV x y u v z t = s := ⟨_, rfl⟩
  obtain ⟨m1, hm1⟩ : ∃ m1, (if u < x then u else x) = m1 := ⟨_, rfl⟩
  obtain ⟨m2, hm2⟩ : ∃ m2, (if x < u then u else x) = m2 := ⟨_, rfl⟩
  obtain ⟨m3, hm3⟩ : ∃ m3, (if v < y then v else y) = m3 := ⟨_, rfl⟩
  obtain ⟨m4, hm4⟩ : ∃ m4, (if y < v then v else y) = m4 := ⟨_, rfl⟩
  obtain ⟨o, ho⟩ : ∃ o, betweenV x y u v z t = o := ⟨_, rfl⟩
  rw [hs, hm1, hm2, hm3, hm4, ho] at HB
  rw [ho]
  have HO := Lib.hid HB.symm
  clear HB ho
  have SD0 := fun w => r5side_any x y u v z t w hx hy hu hv hz ht
  simp only [hs] at SD0
  have SD := Lib.hid SD0
  clear SD0
  clear hs hx hy hu hv hz ht
  by_cases h0 : s = 0
  · have q0 : (s == 0) = true := by simpa using h0
    have HO1 := Lib.hid (show decide (((m1 ≤ z) ∧ (z ≤ m2)) ∧ ((m3 ≤ t) ∧ (t ≤ m4))) = o by rw [← HO.out, decide_eq_decide]; omega)
    clear HO h0
    by_cases g0 : m1 ≤ z
    · skip
      by_cases g1 : z ≤ m2
      · skip
        by_cases g2 : m3 ≤ t
        · skip
          by_cases g3 : t ≤ m4
          · have F := Lib.hid (show true = o by rw [← HO1.out]; symm; rw [decide_eq_true_iff]; omega)
            clear HO1
            go_enter Try.func41, Try.ntmps41
            go_wp2_with fail
            refine (SD.out _).mono ?_
            rintro e w1 ⟨rfl, h1⟩
            have z1 := h1.size
            simp at z1
            have hs : w.heap.size + 1 + 1 + 1 ≤ w1.heap.size := by omega
            have c1 : w1.cell? ⟨w.heap.size, 0, none⟩ = some (.int .i64 (x)) := (h1.cell (p := ⟨w.heap.size, 0, none⟩) (by simp; try omega)).trans (by first | simp | simp [go_sem])
            have c2 : w1.cell? ⟨w.heap.size, 1, none⟩ = some (.int .i64 (y)) := (h1.cell (p := ⟨w.heap.size, 1, none⟩) (by simp; try omega)).trans (by first | simp | simp [go_sem])
            have c3 : w1.cell? ⟨w.heap.size + 1, 0, none⟩ = some (.int .i64 (u)) := (h1.cell (p := ⟨w.heap.size + 1, 0, none⟩) (by simp; try omega)).trans (by first | simp | simp [go_sem])
            have c4 : w1.cell? ⟨w.heap.size + 1, 1, none⟩ = some (.int .i64 (v)) := (h1.cell (p := ⟨w.heap.size + 1, 1, none⟩) (by simp; try omega)).trans (by first | simp | simp [go_sem])
            have c5 : w1.cell? ⟨w.heap.size + 1 + 1, 0, none⟩ = some (.int .i64 (z)) := (h1.cell (p := ⟨w.heap.size + 1 + 1, 0, none⟩) (by simp; try omega)).trans (by first | simp | simp [go_sem])
            have c6 : w1.cell? ⟨w.heap.size + 1 + 1, 1, none⟩ = some (.int .i64 (t)) := (h1.cell (p := ⟨w.heap.size + 1 + 1, 1, none⟩) (by simp; try omega)).trans (by first | simp | simp [go_sem])
            have hb0 : Below w.heap.size w w1 := ((((Below.refl _ _).alloc (by simp; try omega) _).alloc (by simp; try omega) _).alloc (by simp; try omega) _).trans (h1.mono (by simp; try omega))
            clear h1 z1
            go_wp2
            go_ret
            exact ⟨by rw [← F.out]; first | rfl | (simp [*] <;> omega), hb0⟩
          · have F := Lib.hid (show false = o by rw [← HO1.out]; symm; rw [decide_eq_false_iff_not]; omega)
            clear HO1
            go_enter Try.func41, Try.ntmps41
            go_wp2_with fail
            refine (SD.out _).mono ?_
            rintro e w1 ⟨rfl, h1⟩
            have z1 := h1.size
            simp at z1
            have hs : w.heap.size + 1 + 1 + 1 ≤ w1.heap.size := by omega
            have c1 : w1.cell? ⟨w.heap.size, 0, none⟩ = some (.int .i64 (x)) := (h1.cell (p := ⟨w.heap.size, 0, none⟩) (by simp; try omega)).trans (by first | simp | simp [go_sem])
            have c2 : w1.cell? ⟨w.heap.size, 1, none⟩ = some (.int .i64 (y)) := (h1.cell (p := ⟨w.heap.size, 1, none⟩) (by simp; try omega)).trans (by first | simp | simp [go_sem])
            have c3 : w1.cell? ⟨w.heap.size + 1, 0, none⟩ = some (.int .i64 (u)) := (h1.cell (p := ⟨w.heap.size + 1, 0, none⟩) (by simp; try omega)).trans (by first | simp | simp [go_sem])
            have c4 : w1.cell? ⟨w.heap.size + 1, 1, none⟩ = some (.int .i64 (v)) := (h1.cell (p := ⟨w.heap.size + 1, 1, none⟩) (by simp; try omega)).trans (by first | simp | simp [go_sem])
            have c5 : w1.cell? ⟨w.heap.size + 1 + 1, 0, none⟩ = some (.int .i64 (z)) := (h1.cell (p := ⟨w.heap.size + 1 + 1, 0, none⟩) (by simp; try omega)).trans (by first | simp | simp [go_sem])
            have c6 : w1.cell? ⟨w.heap.size + 1 + 1, 1, none⟩ = some (.int .i64 (t)) := (h1.cell (p := ⟨w.heap.size + 1 + 1, 1, none⟩) (by simp; try omega)).trans (by first | simp | simp [go_sem])
            have hb0 : Below w.heap.size w w1 := ((((Below.refl _ _).alloc (by simp; try omega) _).alloc (by simp; try omega) _).alloc (by simp; try omega) _).trans (h1.mono (by simp; try omega))
            clear h1 z1
            go_wp2
            go_ret
            exact ⟨by rw [← F.out]; first | rfl | (simp [*] <;> omega), hb0⟩
        · have F := Lib.hid (show false = o by rw [← HO1.out]; symm; rw [decide_eq_false_iff_not]; omega)
          clear HO1
          go_enter Try.func41, Try.ntmps41
          go_wp2_with fail
          refine (SD.out _).mono ?_
          rintro e w1 ⟨rfl, h1⟩
          have z1 := h1.size
          simp at z1
          have hs : w.heap.size + 1 + 1 + 1 ≤ w1.heap.size := by omega
          have c1 : w1.cell? ⟨w.heap.size, 0, none⟩ = some (.int .i64 (x)) := (h1.cell (p := ⟨w.heap.size, 0, none⟩) (by simp; try omega)).trans (by first | simp | simp [go_sem])
          have c2 : w1.cell? ⟨w.heap.size, 1, none⟩ = some (.int .i64 (y)) := (h1.cell (p := ⟨w.heap.size, 1, none⟩) (by simp; try omega)).trans (by first | simp | simp [go_sem])
          have c3 : w1.cell? ⟨w.heap.size + 1, 0, none⟩ = some (.int .i64 (u)) := (h1.cell (p := ⟨w.heap.size + 1, 0, none⟩) (by simp; try omega)).trans (by first | simp | simp [go_sem])
          have c4 : w1.cell? ⟨w.heap.size + 1, 1, none⟩ = some (.int .i64 (v)) := (h1.cell (p := ⟨w.heap.size + 1, 1, none⟩) (by simp; try omega)).trans (by first | simp | simp [go_sem])
          have c5 : w1.cell? ⟨w.heap.size + 1 + 1, 0, none⟩ = some (.int .i64 (z)) := (h1.cell (p := ⟨w.heap.size + 1 + 1, 0, none⟩) (by simp; try omega)).trans (by first | simp | simp [go_sem])
          have c6 : w1.cell? ⟨w.heap.size + 1 + 1, 1, none⟩ = some (.int .i64 (t)) := (h1.cell (p := ⟨w.heap.size + 1 + 1, 1, none⟩) (by simp; try omega)).trans (by first | simp | simp [go_sem])
          have hb0 : Below w.heap.size w w1 := ((((Below.refl _ _).alloc (by simp; try omega) _).alloc (by simp; try omega) _).alloc (by simp; try omega) _).trans (h1.mono (by simp; try omega))
          clear h1 z1
          go_wp2
          go_ret
          exact ⟨by rw [← F.out]; first | rfl | (simp [*] <;> omega), hb0⟩
      · have F := Lib.hid (show false = o by rw [← HO1.out]; symm; rw [decide_eq_false_iff_not]; omega)
        clear HO1
        go_enter Try.func41, Try.ntmps41
        go_wp2_with fail
        refine (SD.out _).mono ?_
        rintro e w1 ⟨rfl, h1⟩
        have z1 := h1.size
        simp at z1
        have hs : w.heap.size + 1 + 1 + 1 ≤ w1.heap.size := by omega
        have c1 : w1.cell? ⟨w.heap.size, 0, none⟩ = some (.int .i64 (x)) := (h1.cell (p := ⟨w.heap.size, 0, none⟩) (by simp; try omega)).trans (by first | simp | simp [go_sem])
        have c2 : w1.cell? ⟨w.heap.size, 1, none⟩ = some (.int .i64 (y)) := (h1.cell (p := ⟨w.heap.size, 1, none⟩) (by simp; try omega)).trans (by first | simp | simp [go_sem])
        have c3 : w1.cell? ⟨w.heap.size + 1, 0, none⟩ = some (.int .i64 (u)) := (h1.cell (p := ⟨w.heap.size + 1, 0, none⟩) (by simp; try omega)).trans (by first | simp | simp [go_sem])
        have c4 : w1.cell? ⟨w.heap.size + 1, 1, none⟩ = some (.int .i64 (v)) := (h1.cell (p := ⟨w.heap.size + 1, 1, none⟩) (by simp; try omega)).trans (by first | simp | simp [go_sem])
        have c5 : w1.cell? ⟨w.heap.size + 1 + 1, 0, none⟩ = some (.int .i64 (z)) := (h1.cell (p := ⟨w.heap.size + 1 + 1, 0, none⟩) (by simp; try omega)).trans (by first | simp | simp [go_sem])
        have c6 : w1.cell? ⟨w.heap.size + 1 + 1, 1, none⟩ = some (.int .i64 (t)) := (h1.cell (p := ⟨w.heap.size + 1 + 1, 1, none⟩) (by simp; try omega)).trans (by first | simp | simp [go_sem])
        have hb0 : Below w.heap.size w w1 := ((((Below.refl _ _).alloc (by simp; try omega) _).alloc (by simp; try omega) _).alloc (by simp; try omega) _).trans (h1.mono (by simp; try omega))
        clear h1 z1
        go_wp2
        go_ret
        exact ⟨by rw [← F.out]; first | rfl | (simp [*] <;> omega), hb0⟩
    · have F := Lib.hid (show false = o by rw [← HO1.out]; symm; rw [decide_eq_false_iff_not]; omega)
      clear HO1
      go_enter Try.func41, Try.ntmps41
      go_wp2_with fail
      refine (SD.out _).mono ?_
      rintro e w1 ⟨rfl, h1⟩
      have z1 := h1.size
      simp at z1
      have hs : w.heap.size + 1 + 1 + 1 ≤ w1.heap.size := by omega
      have c1 : w1.cell? ⟨w.heap.size, 0, none⟩ = some (.int .i64 (x)) := (h1.cell (p := ⟨w.heap.size, 0, none⟩) (by simp; try omega)).trans (by first | simp | simp [go_sem])
      have c2 : w1.cell? ⟨w.heap.size, 1, none⟩ = some (.int .i64 (y)) := (h1.cell (p := ⟨w.heap.size, 1, none⟩) (by simp; try omega)).trans (by first | simp | simp [go_sem])
      have c3 : w1.cell? ⟨w.heap.size + 1, 0, none⟩ = some (.int .i64 (u)) := (h1.cell (p := ⟨w.heap.size + 1, 0, none⟩) (by simp; try omega)).trans (by first | simp | simp [go_sem])
      have c4 : w1.cell? ⟨w.heap.size + 1, 1, none⟩ = some (.int .i64 (v)) := (h1.cell (p := ⟨w.heap.size + 1, 1, none⟩) (by simp; try omega)).trans (by first | simp | simp [go_sem])
      have c5 : w1.cell? ⟨w.heap.size + 1 + 1, 0, none⟩ = some (.int .i64 (z)) := (h1.cell (p := ⟨w.heap.size + 1 + 1, 0, none⟩) (by simp; try omega)).trans (by first | simp | simp [go_sem])
      have c6 : w1.cell? ⟨w.heap.size + 1 + 1, 1, none⟩ = some (.int .i64 (t)) := (h1.cell (p := ⟨w.heap.size + 1 + 1, 1, none⟩) (by simp; try omega)).trans (by first | simp | simp [go_sem])
      have hb0 : Below w.heap.size w w1 := ((((Below.refl _ _).alloc (by simp; try omega) _).alloc (by simp; try omega) _).alloc (by simp; try omega) _).trans (h1.mono (by simp; try omega))
      clear h1 z1
      go_wp2
      go_ret
      exact ⟨by rw [← F.out]; first | rfl | (simp [*] <;> omega), hb0⟩
  · have q0 : (s == 0) = false := by simpa using h0
    have F := Lib.hid (show false = o by rw [← HO.out]; symm; rw [decide_eq_false_iff_not]; omega)
    clear HO h0
    go_enter Try.func41, Try.ntmps41
    go_wp2_with fail
    refine (SD.out _).mono ?_
    rintro e w1 ⟨rfl, h1⟩
    have z1 := h1.size
    simp at z1
    have hs : w.heap.size + 1 + 1 + 1 ≤ w1.heap.size := by omega
    have c1 : w1.cell? ⟨w.heap.size, 0, none⟩ = some (.int .i64 (x)) := (h1.cell (p := ⟨w.heap.size, 0, none⟩) (by simp; try omega)).trans (by first | simp | simp [go_sem])
    have c2 : w1.cell? ⟨w.heap.size, 1, none⟩ = some (.int .i64 (y)) := (h1.cell (p := ⟨w.heap.size, 1, none⟩) (by simp; try omega)).trans (by first | simp | simp [go_sem])
    have c3 : w1.cell? ⟨w.heap.size + 1, 0, none⟩ = some (.int .i64 (u)) := (h1.cell (p := ⟨w.heap.size + 1, 0, none⟩) (by simp; try omega)).trans (by first | simp | simp [go_sem])
    have c4 : w1.cell? ⟨w.heap.size + 1, 1, none⟩ = some (.int .i64 (v)) := (h1.cell (p := ⟨w.heap.size + 1, 1, none⟩) (by simp; try omega)).trans (by first | simp | simp [go_sem])
    have c5 : w1.cell? ⟨w.heap.size + 1 + 1, 0, none⟩ = some (.int .i64 (z)) := (h1.cell (p := ⟨w.heap.size + 1 + 1, 0, none⟩) (by simp; try omega)).trans (by first | simp | simp [go_sem])
    have c6 : w1.cell? ⟨w.heap.size + 1 + 1, 1, none⟩ = some (.int .i64 (t)) := (h1.cell (p := ⟨w.heap.size + 1 + 1, 1, none⟩) (by simp; try omega)).trans (by first | simp | simp [go_sem])
    have hb0 : Below w.heap.size w w1 := ((((Below.refl _ _).alloc (by simp; try omega) _).alloc (by simp; try omega) _).alloc (by simp; try omega) _).trans (h1.mono (by simp; try omega))
    clear h1 z1
    go_wp2
    go_ret
    exact ⟨by rw [← F.out]; first | rfl | (simp [*] <;> omega), hb0⟩

theorem within_is (x y u v a b z t : Int) : withinV x y u v a b z t =
    if sideV x y u v a b = 0 then (betweenV x y u v z t || betweenV u v a b z t || betweenV a b x y z t)
    else decide ((0 ≤ sideV x y u v z t ∧ 0 ≤ sideV u v a b z t ∧ 0 ≤ sideV a b x y z t) ∨ (sideV x y u v z t ≤ 0 ∧ sideV u v a b z t ≤ 0 ∧ sideV a b x y z t ≤ 0)) := by
  unfold withinV Wth
  by_cases h : crs x y u v a b = 0
  · rw [if_pos (side_0 h)]
    simp only [if_pos h, betweenV, Bool.decide_or, Bool.or_assoc]
  · have hs : sideV x y u v a b ≠ 0 := by rcases sideV_cases x y u v a b with g | g | g <;> omega
    rw [if_neg hs]
    simp only [if_neg h]
    rw [decide_eq_decide]
    rcases sideV_cases x y u v z t with g1 | g1 | g1 <;> rcases sideV_cases u v a b z t with g2 | g2 | g2 <;> rcases sideV_cases a b x y z t with g3 | g3 | g3 <;> omega
theorem sideV_3 (ax ay bx by' px py : Int) : sideV ax ay bx by' px py = -1 ∨ sideV ax ay bx by' px py = 0 ∨ sideV ax ay bx by' px py = 1 := by
  rcases sideV_cases ax ay bx by' px py with h | h | h <;> omega
theorem r5within_any (x y u v a b z t : Int) (w : World) (hx : -1073741824 ≤ x ∧ x ≤ 1073741824) (hy : -1073741824 ≤ y ∧ y ≤ 1073741824) (hu : -1073741824 ≤ u ∧ u ≤ 1073741824) (hv : -1073741824 ≤ v ∧ v ≤ 1073741824) (ha : -1073741824 ≤ a ∧ a ≤ 1073741824) (hb : -1073741824 ≤ b ∧ b ≤ 1073741824) (hz : -1073741824 ≤ z ∧ z ≤ 1073741824) (ht : -1073741824 ≤ t ∧ t ≤ 1073741824) :
    Calls Try.prog 27 #[P2 x y, P2 u v, P2 a b, P2 z t] w fun e w' => e = .returned (.bool (withinV x y u v a b z t)) ∧ Below w.heap.size w w' := by
  have HB := within_is x y u v a b z t
  have k1 := sideV_3 x y u v z t
  have k2 := sideV_3 u v a b z t
  have k3 := sideV_3 a b x y z t
  obtain ⟨s0, hs0⟩ : ∃ s0, sideV x y u v a b = s0 := ⟨_, rfl⟩
  obtain ⟨s1, hs1⟩ : ∃ s1, sideV x y u v z t = s1 := ⟨_, rfl⟩
  obtain ⟨s2, hs2⟩ : ∃ s2, sideV u v a b z t = s2 := ⟨_, rfl⟩
  obtain ⟨s3, hs3⟩ : ∃ s3, sideV a b x y z t = s3 := ⟨_, rfl⟩
  obtain ⟨b1, hb1⟩ : ∃ b1, betweenV x y u v z t = b1 := ⟨_, rfl⟩
  obtain ⟨b2, hb2⟩ : ∃ b2, betweenV u v a b z t = b2 := ⟨_, rfl⟩
  obtain ⟨b3, hb3⟩ : ∃ b3, betweenV a b x y z t = b3 := ⟨_, rfl⟩
  obtain ⟨o, ho⟩ : ∃ o, withinV x y u v a b z t = o := ⟨_, rfl⟩
  rw [hs0, hs1, hs2, hs3, hb1, hb2, hb3, ho] at HB
  rw [ho]
  rw [hs1] at k1
  rw [hs2] at k2
  rw [hs3] at k3
  have HO := Lib.hid HB.symm
  clear HB ho
  have S00 := fun w => r5side_any x y u v a b w hx hy hu hv ha hb
  simp only [hs0] at S00
  have S0 := Lib.hid S00
  clear S00
  have S10 := fun w => r5side_any x y u v z t w hx hy hu hv hz ht
  simp only [hs1] at S10
  have S1 := Lib.hid S10
  clear S10
  have S20 := fun w => r5side_any u v a b z t w hu hv ha hb hz ht
  simp only [hs2] at S20
  have S2 := Lib.hid S20
  clear S20
  have S30 := fun w => r5side_any a b x y z t w ha hb hx hy hz ht
  simp only [hs3] at S30
  have S3 := Lib.hid S30
  clear S30
  have B10 := fun w => r5between_any x y u v z t w hx hy hu hv hz ht
  simp only [hb1] at B10
  have B1 := Lib.hid B10
  clear B10
  have B20 := fun w => r5between_any u v a b z t w hu hv ha hb hz ht
  simp only [hb2] at B20
  have B2 := Lib.hid B20
  clear B20
  have B30 := fun w => r5between_any a b x y z t w ha hb hx hy hz ht
  simp only [hb3] at B30
  have B3 := Lib.hid B30
  clear B30
  clear hs0 hs1 hs2 hs3 hb1 hb2 hb3 hx hy hu hv ha hb hz ht
  by_cases h0 : s0 = 0
  · have q0 : (s0 == 0) = true := by simpa using h0
    have HO1 := Lib.hid (show (b1 || b2 || b3) = o by rw [← HO.out, if_pos h0])
    clear HO h0 k1 k2 k3
    go_enter Try.func27, Try.ntmps27
    go_wp2_with fail
    refine (S1.out _).mono ?_
    rintro e w1 ⟨rfl, h1⟩
    have z1 := h1.size
    simp at z1
    have hs : w.heap.size + 1 + 1 + 1 + 1 ≤ w1.heap.size := by omega
    have c1 : w1.cell? ⟨w.heap.size, 0, none⟩ = some (.int .i64 (x)) := (h1.cell (p := ⟨w.heap.size, 0, none⟩) (by simp; try omega)).trans (by first | simp | simp [go_sem])
    have c2 : w1.cell? ⟨w.heap.size, 1, none⟩ = some (.int .i64 (y)) := (h1.cell (p := ⟨w.heap.size, 1, none⟩) (by simp; try omega)).trans (by first | simp | simp [go_sem])
    have c3 : w1.cell? ⟨w.heap.size + 1, 0, none⟩ = some (.int .i64 (u)) := (h1.cell (p := ⟨w.heap.size + 1, 0, none⟩) (by simp; try omega)).trans (by first | simp | simp [go_sem])
    have c4 : w1.cell? ⟨w.heap.size + 1, 1, none⟩ = some (.int .i64 (v)) := (h1.cell (p := ⟨w.heap.size + 1, 1, none⟩) (by simp; try omega)).trans (by first | simp | simp [go_sem])
    have c5 : w1.cell? ⟨w.heap.size + 1 + 1, 0, none⟩ = some (.int .i64 (a)) := (h1.cell (p := ⟨w.heap.size + 1 + 1, 0, none⟩) (by simp; try omega)).trans (by first | simp | simp [go_sem])
    have c6 : w1.cell? ⟨w.heap.size + 1 + 1, 1, none⟩ = some (.int .i64 (b)) := (h1.cell (p := ⟨w.heap.size + 1 + 1, 1, none⟩) (by simp; try omega)).trans (by first | simp | simp [go_sem])
    have c7 : w1.cell? ⟨w.heap.size + 1 + 1 + 1, 0, none⟩ = some (.int .i64 (z)) := (h1.cell (p := ⟨w.heap.size + 1 + 1 + 1, 0, none⟩) (by simp; try omega)).trans (by first | simp | simp [go_sem])
    have c8 : w1.cell? ⟨w.heap.size + 1 + 1 + 1, 1, none⟩ = some (.int .i64 (t)) := (h1.cell (p := ⟨w.heap.size + 1 + 1 + 1, 1, none⟩) (by simp; try omega)).trans (by first | simp | simp [go_sem])
    have hb0 : Below w.heap.size w w1 := (((((Below.refl _ _).alloc (by simp; try omega) _).alloc (by simp; try omega) _).alloc (by simp; try omega) _).alloc (by simp; try omega) _).trans (h1.mono (by simp; try omega))
    clear h1 z1
    go_wp2_with fail
    refine (S2.out _).mono ?_
    rintro e w2 ⟨rfl, h2⟩
    obtain ⟨d1, d2, d3, d4, d5, d6, d7, d8, hsz, hb1⟩ := next8 (keep8 ⟨c1, c2, c3, c4, c5, c6, c7, c8, Below.refl _ _⟩ h2 (by dsimp only; omega) (by dsimp only; omega) (by dsimp only; omega) (by dsimp only; omega) (by dsimp only; omega) (by dsimp only; omega) (by dsimp only; omega) (by dsimp only; omega)) (by omega) hb0
    clear c1 c2 c3 c4 c5 c6 c7 c8 hb0 h2
    have c1 := d1
    clear d1
    have c2 := d2
    clear d2
    have c3 := d3
    clear d3
    have c4 := d4
    clear d4
    have c5 := d5
    clear d5
    have c6 := d6
    clear d6
    have c7 := d7
    clear d7
    have c8 := d8
    clear d8
    have hb0 := hb1
    clear hb1
    replace hs := Nat.le_trans hs hsz
    clear hsz
    go_wp2_with fail
    refine (S3.out _).mono ?_
    rintro e w3 ⟨rfl, h3⟩
    obtain ⟨d1, d2, d3, d4, d5, d6, d7, d8, hsz, hb1⟩ := next8 (keep8 ⟨c1, c2, c3, c4, c5, c6, c7, c8, Below.refl _ _⟩ h3 (by dsimp only; omega) (by dsimp only; omega) (by dsimp only; omega) (by dsimp only; omega) (by dsimp only; omega) (by dsimp only; omega) (by dsimp only; omega) (by dsimp only; omega)) (by omega) hb0
    clear c1 c2 c3 c4 c5 c6 c7 c8 hb0 h3
    have c1 := d1
    clear d1
    have c2 := d2
    clear d2
    have c3 := d3
    clear d3
    have c4 := d4
    clear d4
    have c5 := d5
    clear d5
    have c6 := d6
    clear d6
    have c7 := d7
    clear d7
    have c8 := d8
    clear d8
    have hb0 := hb1
    clear hb1
    replace hs := Nat.le_trans hs hsz
    clear hsz
    go_wp2_with fail
    refine (S0.out _).mono ?_
    rintro e w4 ⟨rfl, h4⟩
    obtain ⟨d1, d2, d3, d4, d5, d6, d7, d8, hsz, hb1⟩ := next8 (keep8 ⟨c1, c2, c3, c4, c5, c6, c7, c8, Below.refl _ _⟩ h4 (by dsimp only; omega) (by dsimp only; omega) (by dsimp only; omega) (by dsimp only; omega) (by dsimp only; omega) (by dsimp only; omega) (by dsimp only; omega) (by dsimp only; omega)) (by omega) hb0
    clear c1 c2 c3 c4 c5 c6 c7 c8 hb0 h4
    have c1 := d1
    clear d1
    have c2 := d2
    clear d2
    have c3 := d3
    clear d3
    have c4 := d4
    clear d4
    have c5 := d5
    clear d5
    have c6 := d6
    clear d6
    have c7 := d7
    clear d7
    have c8 := d8
    clear d8
    have hb0 := hb1
    clear hb1
    replace hs := Nat.le_trans hs hsz
    clear hsz
    go_wp2_with fail
    refine (B1.out _).mono ?_
    rintro e w5 ⟨rfl, h5⟩
    obtain ⟨d1, d2, d3, d4, d5, d6, d7, d8, hsz, hb1⟩ := next8 (keep8 ⟨c1, c2, c3, c4, c5, c6, c7, c8, Below.refl _ _⟩ h5 (by dsimp only; omega) (by dsimp only; omega) (by dsimp only; omega) (by dsimp only; omega) (by dsimp only; omega) (by dsimp only; omega) (by dsimp only; omega) (by dsimp only; omega)) (by omega) hb0
    clear c1 c2 c3 c4 c5 c6 c7 c8 hb0 h5
    have c1 := d1
    clear d1
    have c2 := d2
    clear d2
    have c3 := d3
    clear d3
    have c4 := d4
    clear d4
    have c5 := d5
    clear d5
    have c6 := d6
    clear d6
    have c7 := d7
    clear d7
    have c8 := d8
    clear d8
    have hb0 := hb1
    clear hb1
    replace hs := Nat.le_trans hs hsz
    clear hsz
    cases b1
    · go_wp2_with fail
      refine (B2.out _).mono ?_
      rintro e w6 ⟨rfl, h6⟩
      obtain ⟨d1, d2, d3, d4, d5, d6, d7, d8, hsz, hb1⟩ := next8 (keep8 ⟨c1, c2, c3, c4, c5, c6, c7, c8, Below.refl _ _⟩ h6 (by dsimp only; omega) (by dsimp only; omega) (by dsimp only; omega) (by dsimp only; omega) (by dsimp only; omega) (by dsimp only; omega) (by dsimp only; omega) (by dsimp only; omega)) (by omega) hb0
      clear c1 c2 c3 c4 c5 c6 c7 c8 hb0 h6
      have c1 := d1
      clear d1
      have c2 := d2
      clear d2
      have c3 := d3
      clear d3
      have c4 := d4
      clear d4
      have c5 := d5
      clear d5
      have c6 := d6
      clear d6
      have c7 := d7
      clear d7
      have c8 := d8
      clear d8
      have hb0 := hb1
      clear hb1
      replace hs := Nat.le_trans hs hsz
      clear hsz
      cases b2
      · go_wp2_with fail
        refine (B3.out _).mono ?_
        rintro e w7 ⟨rfl, h7⟩
        have hb0 := hb0.trans (h7.mono (by omega))
        go_wp2
        go_ret
        exact ⟨by rw [← HO1.out]; rfl, hb0⟩
      · go_wp2
        go_ret
        exact ⟨by rw [← HO1.out]; rfl, hb0⟩
    · go_wp2
      go_ret
      exact ⟨by rw [← HO1.out]; rfl, hb0⟩
  · have q0 : (s0 == 0) = false := by simpa using h0
    have HO1 := Lib.hid (show decide ((0 ≤ s1 ∧ 0 ≤ s2 ∧ 0 ≤ s3) ∨ (s1 ≤ 0 ∧ s2 ≤ 0 ∧ s3 ≤ 0)) = o by rw [← HO.out, if_neg h0])
    clear HO h0
    have K1 := Lib.hid k1
    have K2 := Lib.hid k2
    have K3 := Lib.hid k3
    clear k1 k2 k3
    go_enter Try.func27, Try.ntmps27
    go_wp2_with fail
    refine (S1.out _).mono ?_
    rintro e w1 ⟨rfl, h1⟩
    have z1 := h1.size
    simp at z1
    have hs : w.heap.size + 1 + 1 + 1 + 1 ≤ w1.heap.size := by omega
    have c1 : w1.cell? ⟨w.heap.size, 0, none⟩ = some (.int .i64 (x)) := (h1.cell (p := ⟨w.heap.size, 0, none⟩) (by simp; try omega)).trans (by first | simp | simp [go_sem])
    have c2 : w1.cell? ⟨w.heap.size, 1, none⟩ = some (.int .i64 (y)) := (h1.cell (p := ⟨w.heap.size, 1, none⟩) (by simp; try omega)).trans (by first | simp | simp [go_sem])
    have c3 : w1.cell? ⟨w.heap.size + 1, 0, none⟩ = some (.int .i64 (u)) := (h1.cell (p := ⟨w.heap.size + 1, 0, none⟩) (by simp; try omega)).trans (by first | simp | simp [go_sem])
    have c4 : w1.cell? ⟨w.heap.size + 1, 1, none⟩ = some (.int .i64 (v)) := (h1.cell (p := ⟨w.heap.size + 1, 1, none⟩) (by simp; try omega)).trans (by first | simp | simp [go_sem])
    have c5 : w1.cell? ⟨w.heap.size + 1 + 1, 0, none⟩ = some (.int .i64 (a)) := (h1.cell (p := ⟨w.heap.size + 1 + 1, 0, none⟩) (by simp; try omega)).trans (by first | simp | simp [go_sem])
    have c6 : w1.cell? ⟨w.heap.size + 1 + 1, 1, none⟩ = some (.int .i64 (b)) := (h1.cell (p := ⟨w.heap.size + 1 + 1, 1, none⟩) (by simp; try omega)).trans (by first | simp | simp [go_sem])
    have c7 : w1.cell? ⟨w.heap.size + 1 + 1 + 1, 0, none⟩ = some (.int .i64 (z)) := (h1.cell (p := ⟨w.heap.size + 1 + 1 + 1, 0, none⟩) (by simp; try omega)).trans (by first | simp | simp [go_sem])
    have c8 : w1.cell? ⟨w.heap.size + 1 + 1 + 1, 1, none⟩ = some (.int .i64 (t)) := (h1.cell (p := ⟨w.heap.size + 1 + 1 + 1, 1, none⟩) (by simp; try omega)).trans (by first | simp | simp [go_sem])
    have hb0 : Below w.heap.size w w1 := (((((Below.refl _ _).alloc (by simp; try omega) _).alloc (by simp; try omega) _).alloc (by simp; try omega) _).alloc (by simp; try omega) _).trans (h1.mono (by simp; try omega))
    clear h1 z1
    go_wp2_with fail
    refine (S2.out _).mono ?_
    rintro e w2 ⟨rfl, h2⟩
    obtain ⟨d1, d2, d3, d4, d5, d6, d7, d8, hsz, hb1⟩ := next8 (keep8 ⟨c1, c2, c3, c4, c5, c6, c7, c8, Below.refl _ _⟩ h2 (by dsimp only; omega) (by dsimp only; omega) (by dsimp only; omega) (by dsimp only; omega) (by dsimp only; omega) (by dsimp only; omega) (by dsimp only; omega) (by dsimp only; omega)) (by omega) hb0
    clear c1 c2 c3 c4 c5 c6 c7 c8 hb0 h2
    have c1 := d1
    clear d1
    have c2 := d2
    clear d2
    have c3 := d3
    clear d3
    have c4 := d4
    clear d4
    have c5 := d5
    clear d5
    have c6 := d6
    clear d6
    have c7 := d7
    clear d7
    have c8 := d8
    clear d8
    have hb0 := hb1
    clear hb1
    replace hs := Nat.le_trans hs hsz
    clear hsz
    go_wp2_with fail
    refine (S3.out _).mono ?_
    rintro e w3 ⟨rfl, h3⟩
    obtain ⟨d1, d2, d3, d4, d5, d6, d7, d8, hsz, hb1⟩ := next8 (keep8 ⟨c1, c2, c3, c4, c5, c6, c7, c8, Below.refl _ _⟩ h3 (by dsimp only; omega) (by dsimp only; omega) (by dsimp only; omega) (by dsimp only; omega) (by dsimp only; omega) (by dsimp only; omega) (by dsimp only; omega) (by dsimp only; omega)) (by omega) hb0
    clear c1 c2 c3 c4 c5 c6 c7 c8 hb0 h3
    have c1 := d1
    clear d1
    have c2 := d2
    clear d2
    have c3 := d3
    clear d3
    have c4 := d4
    clear d4
    have c5 := d5
    clear d5
    have c6 := d6
    clear d6
    have c7 := d7
    clear d7
    have c8 := d8
    clear d8
    have hb0 := hb1
    clear hb1
    replace hs := Nat.le_trans hs hsz
    clear hsz
    go_wp2_with fail
    refine (S0.out _).mono ?_
    rintro e w4 ⟨rfl, h4⟩
    obtain ⟨d1, d2, d3, d4, d5, d6, d7, d8, hsz, hb1⟩ := next8 (keep8 ⟨c1, c2, c3, c4, c5, c6, c7, c8, Below.refl _ _⟩ h4 (by dsimp only; omega) (by dsimp only; omega) (by dsimp only; omega) (by dsimp only; omega) (by dsimp only; omega) (by dsimp only; omega) (by dsimp only; omega) (by dsimp only; omega)) (by omega) hb0
    clear c1 c2 c3 c4 c5 c6 c7 c8 hb0 h4
    have c1 := d1
    clear d1
    have c2 := d2
    clear d2
    have c3 := d3
    clear d3
    have c4 := d4
    clear d4
    have c5 := d5
    clear d5
    have c6 := d6
    clear d6
    have c7 := d7
    clear d7
    have c8 := d8
    clear d8
    have hb0 := hb1
    clear hb1
    replace hs := Nat.le_trans hs hsz
    clear hsz
    rcases K1.out with rfl | rfl | rfl <;> rcases K2.out with rfl | rfl | rfl <;> rcases K3.out with rfl | rfl | rfl
    all_goals
      have F := Lib.hid HO1.out
      clear HO1 K1 K2 K3
      go_wp2
      go_ret
      exact ⟨by rw [← F.out]; rfl, hb0⟩

end Go.Proofs.Ytlgfnhapjhoelaa
