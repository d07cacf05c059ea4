/- The small case that must go well: a triangle is put the right way round. -/
import Derived.Test.YtlgfnhapjhoelaaPce
namespace Go.Proofs.Ytlgfnhapjhoelaa
open Go.RowKit
set_option linter.unusedVariables false
set_option linter.unusedSimpArgs false
set_option maxHeartbeats 4000000
set_option maxRecDepth 100000

def tri0 : List Pnt := [(0, 0), (0, 2), (2, 0)]
def tri1 : List Pnt := [(2, 0), (0, 2), (0, 0)]
theorem tri_put : putL tri0 = [tri1] := by decide
theorem tri_area : areaV tri1 = 4 := by decide
theorem tri_convex : convexV tri1 = true := by decide
theorem tri_in : hasV tri1 (1, 1) = true := by decide
theorem tri_out : hasV tri1 (2, 1) = false := by decide

theorem shown6_any (w : World) :
    Calls Try.prog 10 #[] w fun e w' => e = .returned (.bool true) ∧ Below w.heap.size w w' := by
  have PUT := Lib.hid (fun A B cb w (hp : Pcs w w.heap.size A []) (hr : Cor w w.heap.size B tri0) => pput_any A [] B cb tri0 w hp hr (by decide) (by decide) (by decide))
  have AR0 := fun A cap w (hr : Cor w w.heap.size A tri1) => parea_any A cap tri1 w hr (by decide) (by decide)
  have CV0 := fun A cap w (hr : Cor w w.heap.size A tri1) => pconvex_any A cap tri1 w hr (by decide) (by decide)
  have HI0 := fun A cap w (hr : Cor w w.heap.size A tri1) => phas_any A cap tri1 1 1 w hr (by decide) (by decide) (by omega) (by omega)
  have HO0 := fun A cap w (hr : Cor w w.heap.size A tri1) => phas_any A cap tri1 2 1 w hr (by decide) (by decide) (by omega) (by omega)
  simp only [tri_area] at AR0
  simp only [tri_convex] at CV0
  simp only [tri_in] at HI0
  simp only [tri_out] at HO0
  have AR := Lib.hid AR0
  have CV := Lib.hid CV0
  have HI := Lib.hid HI0
  have HO := Lib.hid HO0
  clear AR0 CV0 HI0 HO0
  go_enter Try.func10, Try.ntmps10
  go_wp2_with fail
  refine (PUT.out none (some ⟨w.heap.size, 0, none⟩) 3 _ (pcs_nil _ _ _) (cor_lit w _ _ tri0 _ rfl (by simp))).mono ?_
  rintro e w1 ⟨A, c, rfl, hp, h1⟩
  rw [List.nil_append, tri_put] at hp ⊢
  have z1 := h1.size
  simp at z1
  have hb := (show Below w.heap.size w _ from (Below.refl _ _).alloc (by simp) _).trans (h1.mono (by simp))
  clear h1
  obtain ⟨ad, a, ca, rfl, hB, h16, c1, hc⟩ := hp.at_ (i := 0) (p := tri1) rfl
  obtain ⟨ad2, rfl, hB2, c2, c3⟩ := hc.at_ (i := 0) (p := ((2, 0) : Pnt)) rfl
  simp only [Nat.zero_mul, add_zero] at c1 c2 c3
  clear hp h16
  have HC := Lib.hid hc
  clear hc
  go_wp2_with fail
  refine (AR.out _ _ _ HC.out).mono ?_
  rintro e w2 ⟨rfl, h2⟩
  replace c1 := (h2.cell hB).trans c1
  replace hb := hb.trans (h2.mono hb.size)
  have HC2 := Lib.hid (HC.out.calls h2)
  replace hB := Nat.lt_of_lt_of_le hB h2.size
  clear h2 HC c2 c3
  have HC := HC2
  clear HC2
  go_wp2_with fail
  refine (CV.out _ _ _ HC.out).mono ?_
  rintro e w3 ⟨rfl, h3⟩
  replace c1 := (h3.cell hB).trans c1
  replace hb := hb.trans (h3.mono hb.size)
  have HC3 := Lib.hid (HC.out.calls h3)
  replace hB := Nat.lt_of_lt_of_le hB h3.size
  clear h3 HC
  have HC := HC3
  clear HC3
  go_wp2_with fail
  refine (HI.out _ _ _ HC.out).mono ?_
  rintro e w4 ⟨rfl, h4⟩
  replace c1 := (h4.cell hB).trans c1
  replace hb := hb.trans (h4.mono hb.size)
  have HC4 := Lib.hid (HC.out.calls h4)
  replace hB := Nat.lt_of_lt_of_le hB h4.size
  clear h4 HC
  have HC := HC4
  clear HC4
  go_wp2_with fail
  refine (HO.out _ _ _ HC.out).mono ?_
  rintro e w5 ⟨rfl, h5⟩
  replace c1 := (h5.cell hB).trans c1
  replace hb := hb.trans (h5.mono hb.size)
  have HC5 := Lib.hid (HC.out.calls h5)
  replace hB := Nat.lt_of_lt_of_le hB h5.size
  clear h5 HC
  have HC := HC5
  clear HC5
  go_wp2
  go_ret
  exact ⟨rfl, hb⟩
end Go.Proofs.Ytlgfnhapjhoelaa
