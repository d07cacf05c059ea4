/- What the document's own layer 5 answers: Side, Between, Within, Sharp, Miter, Quarter, Before. -/
import Derived.Test.YtlgfnhapjhoelaaRef4
import Derived.Test.YtlgfnhapjhoelaaBoxNum
namespace Go.Proofs.Ytlgfnhapjhoelaa
open Go.RowKit
set_option linter.unusedVariables false
set_option linter.unusedSimpArgs false
set_option maxHeartbeats 4000000
set_option maxRecDepth 100000

theorem r5side_any (x y u v p q : Int) (w : World) (hx : -1073741824 ≤ x ∧ x ≤ 1073741824) (hy : -1073741824 ≤ y ∧ y ≤ 1073741824) (hu : -1073741824 ≤ u ∧ u ≤ 1073741824) (hv : -1073741824 ≤ v ∧ v ≤ 1073741824) (hp : -1073741824 ≤ p ∧ p ≤ 1073741824) (hq : -1073741824 ≤ q ∧ q ≤ 1073741824) :
    Calls Try.prog 26 #[P2 x y, P2 u v, P2 p q] w fun e w' => e = .returned (.int .i64 (sideV x y u v p q)) ∧ Below w.heap.size w w' := by
  obtain ⟨da, hda⟩ : ∃ da, u - x = da := ⟨_, rfl⟩
  obtain ⟨db, hdb⟩ : ∃ db, v - y = db := ⟨_, rfl⟩
  obtain ⟨dc, hdc⟩ : ∃ dc, p - x = dc := ⟨_, rfl⟩
  obtain ⟨dd, hdd⟩ : ∃ dd, q - y = dd := ⟨_, rfl⟩
  have bda : -2147483648 ≤ da ∧ da ≤ 2147483648 := by omega
  have bdb : -2147483648 ≤ db ∧ db ≤ 2147483648 := by omega
  have bdc : -2147483648 ≤ dc ∧ dc ≤ 2147483648 := by omega
  have bdd : -2147483648 ≤ dd ∧ dd ≤ 2147483648 := by omega
  have gx : -2147483648 ≤ x ∧ x ≤ 2147483648 := by omega
  have gy : -2147483648 ≤ y ∧ y ≤ 2147483648 := by omega
  have gu : -2147483648 ≤ u ∧ u ≤ 2147483648 := by omega
  have gv : -2147483648 ≤ v ∧ v ≤ 2147483648 := by omega
  have gp : -2147483648 ≤ p ∧ p ≤ 2147483648 := by omega
  have gq : -2147483648 ≤ q ∧ q ≤ 2147483648 := by omega
  have ida : -9223372036854775808 ≤ da ∧ da ≤ 9223372036854775807 := by omega
  have idb : -9223372036854775808 ≤ db ∧ db ≤ 9223372036854775807 := by omega
  have idc : -9223372036854775808 ≤ dc ∧ dc ≤ 9223372036854775807 := by omega
  have idd : -9223372036854775808 ≤ dd ∧ dd ≤ 9223372036854775807 := by omega
  have SA0 := fun w => r4sub_any u v x y w gu gv gx gy
  simp only [hda, hdb] at SA0
  have SA := Lib.hid SA0
  clear SA0
  have SB0 := fun w => r4sub_any p q x y w gp gq gx gy
  simp only [hdc, hdd] at SB0
  have SB := Lib.hid SB0
  clear SB0
  have pm := prod_near da dd 2147483648 2147483648 bda bdd (by omega) (by omega)
  have pn := prod_near db dc 2147483648 2147483648 bdb bdc (by omega) (by omega)
  obtain ⟨m, hm⟩ : ∃ m, da * dd = m := ⟨_, rfl⟩
  obtain ⟨n, hn⟩ : ∃ n, db * dc = n := ⟨_, rfl⟩
  rw [hm] at pm
  rw [hn] at pn
  have HS := Lib.hid (show sideV x y u v p q = cmpN m n by unfold sideV; rw [hda, hdb, hdc, hdd, hm, hn])
  obtain ⟨s, hs⟩ : ∃ s, sideV x y u v p q = s := ⟨_, rfl⟩
  rw [hs] at HS ⊢
  have hcm := HS.out
  obtain ⟨wm, hwm⟩ : ∃ c, W m = c := ⟨_, rfl⟩
  obtain ⟨wn, hwn⟩ : ∃ c, W n = c := ⟨_, rfl⟩
  have MA0 := fun w => rmul_any da dd w ida idd
  simp only [hm] at MA0
  simp only [hwm] at MA0
  have MA := Lib.hid MA0
  clear MA0
  have MB0 := fun w => rmul_any db dc w idb idc
  simp only [hn] at MB0
  simp only [hwn] at MB0
  have MB := Lib.hid MB0
  clear MB0
  have CM0 := fun w => rcmp_any m n w (by unfold In; omega) (by unfold In; omega)
  simp only [← hcm] at CM0
  simp only [hwm, hwn] at CM0
  have CM := Lib.hid CM0
  clear CM0
  clear hwm hwn
  clear hda hdb hdc hdd hm hn hs hcm HS bda bdb bdc bdd pm pn ida idb idc idd gx gy gu gv gp gq hx hy hu hv hp hq
  go_enter Try.func26, Try.ntmps26
  go_wp2_with fail
  refine (SA.out _).mono ?_
  rintro e w1 ⟨rfl, h1⟩
  have z1 := h1.size
  simp at z1
  have hs : w.heap.size + 1 + 1 + 1 ≤ w1.heap.size := by omega
  have c1 : w1.cell? ⟨w.heap.size, 0, none⟩ = some (.int .i64 (x)) := (h1.cell (p := ⟨w.heap.size, 0, none⟩) (by simp; try omega)).trans (by first | simp | simp [go_sem])
  have c2 : w1.cell? ⟨w.heap.size, 1, none⟩ = some (.int .i64 (y)) := (h1.cell (p := ⟨w.heap.size, 1, none⟩) (by simp; try omega)).trans (by first | simp | simp [go_sem])
  have c3 : w1.cell? ⟨w.heap.size + 1, 0, none⟩ = some (.int .i64 (u)) := (h1.cell (p := ⟨w.heap.size + 1, 0, none⟩) (by simp; try omega)).trans (by first | simp | simp [go_sem])
  have c4 : w1.cell? ⟨w.heap.size + 1, 1, none⟩ = some (.int .i64 (v)) := (h1.cell (p := ⟨w.heap.size + 1, 1, none⟩) (by simp; try omega)).trans (by first | simp | simp [go_sem])
  have c5 : w1.cell? ⟨w.heap.size + 1 + 1, 0, none⟩ = some (.int .i64 (p)) := (h1.cell (p := ⟨w.heap.size + 1 + 1, 0, none⟩) (by simp; try omega)).trans (by first | simp | simp [go_sem])
  have c6 : w1.cell? ⟨w.heap.size + 1 + 1, 1, none⟩ = some (.int .i64 (q)) := (h1.cell (p := ⟨w.heap.size + 1 + 1, 1, none⟩) (by simp; try omega)).trans (by first | simp | simp [go_sem])
  have hb0 : Below w.heap.size w w1 := ((((Below.refl _ _).alloc (by simp; try omega) _).alloc (by simp; try omega) _).alloc (by simp; try omega) _).trans (h1.mono (by simp; try omega))
  clear h1 z1
  go_upto_region 2 with fail
  refine any_gen (fun z => z.cell? ⟨w.heap.size, 0, none⟩ = some (.int .i64 (x)) ∧ z.cell? ⟨w.heap.size, 1, none⟩ = some (.int .i64 (y)) ∧ z.cell? ⟨w.heap.size + 1, 0, none⟩ = some (.int .i64 (u)) ∧ z.cell? ⟨w.heap.size + 1, 1, none⟩ = some (.int .i64 (v)) ∧ z.cell? ⟨w.heap.size + 1 + 1, 0, none⟩ = some (.int .i64 (p)) ∧ z.cell? ⟨w.heap.size + 1 + 1, 1, none⟩ = some (.int .i64 (q)) ∧ z.cell? ⟨w1.heap.size, 0, none⟩ = some (.int .i64 (da)) ∧ z.cell? ⟨w1.heap.size, 1, none⟩ = some (.int .i64 (db)) ∧ w1.heap.size + 1 ≤ z.heap.size ∧ Below w.heap.size w z) ⟨(World.cell?_alloc_old _ _ _ (by dsimp only; omega)).trans c1, (World.cell?_alloc_old _ _ _ (by dsimp only; omega)).trans c2, (World.cell?_alloc_old _ _ _ (by dsimp only; omega)).trans c3, (World.cell?_alloc_old _ _ _ (by dsimp only; omega)).trans c4, (World.cell?_alloc_old _ _ _ (by dsimp only; omega)).trans c5, (World.cell?_alloc_old _ _ _ (by dsimp only; omega)).trans c6, by simp, by simp, by simp, hb0.alloc (by first | omega | exact hb0.size) _⟩ ?_
  clear c1 c2 c3 c4 c5 c6 hb0
  rintro w2 ⟨c1, c2, c3, c4, c5, c6, c7, c8, hsz, hb0⟩
  have hz2 : w1.heap.size + 1 ≤ w2.heap.size := hsz
  clear hsz
  go_wp2_with fail
  refine (SB.out _).mono ?_
  rintro e w3 ⟨rfl, h3⟩
  obtain ⟨d1, d2, d3, d4, d5, d6, d7, d8, hsz, hb1⟩ := next8 (keep8 ⟨c1, c2, c3, c4, c5, c6, c7, c8, Below.refl _ _⟩ h3 (by dsimp only; omega) (by dsimp only; omega) (by dsimp only; omega) (by dsimp only; omega) (by dsimp only; omega) (by dsimp only; omega) (by dsimp only; omega) (by dsimp only; omega)) (by omega) hb0
  clear c1 c2 c3 c4 c5 c6 c7 c8 hb0 h3
  have c1 := d1
  clear d1
  have c2 := d2
  clear d2
  have c3 := d3
  clear d3
  have c4 := d4
  clear d4
  have c5 := d5
  clear d5
  have c6 := d6
  clear d6
  have c7 := d7
  clear d7
  have c8 := d8
  clear d8
  have hb0 := hb1
  clear hb1
  replace hz2 := Nat.le_trans hz2 hsz
  clear hsz
  go_upto_region 3 with fail
  refine any_gen (fun z => z.cell? ⟨w.heap.size, 0, none⟩ = some (.int .i64 (x)) ∧ z.cell? ⟨w.heap.size, 1, none⟩ = some (.int .i64 (y)) ∧ z.cell? ⟨w.heap.size + 1, 0, none⟩ = some (.int .i64 (u)) ∧ z.cell? ⟨w.heap.size + 1, 1, none⟩ = some (.int .i64 (v)) ∧ z.cell? ⟨w.heap.size + 1 + 1, 0, none⟩ = some (.int .i64 (p)) ∧ z.cell? ⟨w.heap.size + 1 + 1, 1, none⟩ = some (.int .i64 (q)) ∧ z.cell? ⟨w1.heap.size, 0, none⟩ = some (.int .i64 (da)) ∧ z.cell? ⟨w1.heap.size, 1, none⟩ = some (.int .i64 (db)) ∧ z.cell? ⟨w3.heap.size, 0, none⟩ = some (.int .i64 (dc)) ∧ z.cell? ⟨w3.heap.size, 1, none⟩ = some (.int .i64 (dd)) ∧ w3.heap.size + 1 ≤ z.heap.size ∧ Below w.heap.size w z) ⟨(World.cell?_alloc_old _ _ _ (by dsimp only; omega)).trans c1, (World.cell?_alloc_old _ _ _ (by dsimp only; omega)).trans c2, (World.cell?_alloc_old _ _ _ (by dsimp only; omega)).trans c3, (World.cell?_alloc_old _ _ _ (by dsimp only; omega)).trans c4, (World.cell?_alloc_old _ _ _ (by dsimp only; omega)).trans c5, (World.cell?_alloc_old _ _ _ (by dsimp only; omega)).trans c6, (World.cell?_alloc_old _ _ _ (by dsimp only; omega)).trans c7, (World.cell?_alloc_old _ _ _ (by dsimp only; omega)).trans c8, by simp, by simp, by simp, hb0.alloc (by first | omega | exact hb0.size) _⟩ ?_
  clear c1 c2 c3 c4 c5 c6 c7 c8 hb0
  rintro w4 ⟨c1, c2, c3, c4, c5, c6, c7, c8, c9, c10, hsz, hb0⟩
  have hz4 : w3.heap.size + 1 ≤ w4.heap.size := hsz
  clear hsz
  clear c1 c2 c3 c4 c5 c6
  have k1 := c7
  have k2 := c8
  have k3 := c9
  have k4 := c10
  clear c7 c8 c9 c10
  have c1 := k1
  have c2 := k2
  have c3 := k3
  have c4 := k4
  clear k1 k2 k3 k4
  first | (go_region_held3 (fun w' => w'.cell? ⟨w1.heap.size, 0, none⟩ = some (.int .i64 (da)) ∧ w'.cell? ⟨w1.heap.size, 1, none⟩ = some (.int .i64 (db)) ∧ w'.cell? ⟨w3.heap.size, 0, none⟩ = some (.int .i64 (dc)) ∧ w'.cell? ⟨w3.heap.size, 1, none⟩ = some (.int .i64 (dd)) ∧ Below w4.heap.size w4 w') ((first | assumption | exact ⟨by simp [*], by simp [*], by simp [*], by simp [*], (Below.refl _ _).drew⟩ | exact keep4 ‹_› hb (by dsimp only; omega) (by dsimp only; omega) (by dsimp only; omega) (by dsimp only; omega) | exact keepA4 ‹_› _ (by dsimp only; omega) (by dsimp only; omega) (by dsimp only; omega) (by dsimp only; omega) | exact keepS4 (keepS4 ‹_› _ _ (by dsimp only; omega) (by dsimp only; omega) (by dsimp only; omega) (by dsimp only; omega) (by dsimp only; omega)) _ _ (by dsimp only; omega) (by dsimp only; omega) (by dsimp only; omega) (by dsimp only; omega) (by dsimp only; omega))) ((first | (go_at_call 40; with_reducible refine (MA.out _).mono ?_; rintro e w' ⟨rfl, hb⟩) | (go_at_call 40; with_reducible refine (MB.out _).mono ?_; rintro e w' ⟨rfl, hb⟩) | (go_at_call 39; with_reducible refine (CM.out _).mono ?_; rintro e w' ⟨rfl, hb⟩)))) | fail
  all_goals
    have hF := belK4 ‹_ ∧ _ ∧ _ ∧ _ ∧ Below w4.heap.size w4 _›
    go_wp2
    go_ret
    exact ⟨rfl, hb0.trans (hF.mono (by omega))⟩

end Go.Proofs.Ytlgfnhapjhoelaa
