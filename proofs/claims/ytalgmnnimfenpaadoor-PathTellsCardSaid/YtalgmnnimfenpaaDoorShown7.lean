/- The small case that must go well: a path of two segments. -/
import Derived.Test.YtalgmnnimfenpaaDoorPth
import Derived.Test.YtalgmnnimfenpaaDoorCorL
namespace Go.Proofs.YtalgmnnimfenpaaDoor
open Go.RowKit
set_option linter.unusedVariables false
set_option linter.unusedSimpArgs false
set_option maxHeartbeats 4000000
set_option maxRecDepth 100000

def sh0 : SubV := ((1, 0), [(((1, 0), (5, 0), zP, zP), 2), (((5, 0), (1, 0), zP, zP), 2)], true)
theorem sh_split : splitE [1, 2, 5] [(1, 0), (5, 0)] = [sh0] := by decide
theorem sh_check : pathE [1, 2, 5] [(1, 0), (5, 0)] = 0 := by decide
theorem sh_two : pathE [2] [] = 70 := by decide
theorem vals_lit (w : World) (g : Nat) (cs : Array Value) (e : TypeId) (l : List Int) (B : Nat) (hg : g = w.heap.size) (h : cs.toList = l.map iV) (hB : g < B) : Vals (w.alloc (.cells cs e)) B (some ⟨g, 0, none⟩) (l.map iV) := fun _ => by
  subst hg
  refine ⟨_, rfl, hB, fun i u hu => ?_⟩
  rw [← h] at hu
  exact World.news_of_block (cs := cs) (t := e) (fr := (0, 0)) (heap_alloc_new w _) i u (by simpa using hu)
theorem add_nul (a : Addr) : a.add 0 = a := by unfold Addr.add; simp

theorem shown7_any (w : World) (hT : Tab7 w) :
    Calls Tryd.prog 10 #[] w fun e w' => e = .returned (.bool true) ∧ Below w.heap.size w w' := by
  have HTB := Lib.hid (fun (x : World) (hb : Below w.heap.size w x) => hT.step hb)
  have SP := Lib.hid (fun A B w (hT : Tab7 w) (hr : Vals w w.heap.size A ([1, 2, 5].map iV)) (hq : Cor w w.heap.size B [(1, 0), (5, 0)]) => q7split_any A B 3 2 [1, 2, 5] [(1, 0), (5, 0)] w hT hr hq (by decide) (by decide) (by decide) (by decide) (by decide))
  have CK := Lib.hid (fun A w (hT : Tab7 w) (hr : Vals w w.heap.size A ([2].map iV)) => q7check_any A none 1 0 [2] [] w hT hr (fun h => absurd h (Nat.lt_irrefl 0)) (by decide) (by decide))
  have EN := Lib.hid (fun w => q7end_any 5 0 1 0 0 0 0 0 2 w)
  have TK := Lib.hid (fun w (hT : Tab7 w) => q7takes_any 4 w hT)
  clear hT
  go_enter Tryd.func10, Tryd.ntmps10
  go_upto_region 2 with fail
  refine any_gen (fun z => z.cell? ⟨w.heap.size + 1 + 1, 0, none⟩ = some (.slice (some ⟨w.heap.size, 0, none⟩) 3 3) ∧ z.cell? ⟨w.heap.size + 1 + 1, 1, none⟩ = some (.slice (some ⟨w.heap.size + 1, 0, none⟩) 2 2) ∧ Vals z z.heap.size (some ⟨w.heap.size, 0, none⟩) ([1, 2, 5].map iV) ∧ Cor z z.heap.size (some ⟨w.heap.size + 1, 0, none⟩) [(1, 0), (5, 0)] ∧ w.heap.size + 1 + 1 < z.heap.size ∧ Below w.heap.size w z) ⟨by simp [go_sem], by simp [go_sem], ?v, ?c, by simp, by repeat (first | exact Below.refl _ _ | refine below_dN ?_ _ | refine Below.setCell ?_ (by simp; try omega) _ | refine Below.alloc ?_ (by simp; try omega) _)⟩ ?_
  case v => exact fun _ => ⟨_, rfl, by simp; omega, fun i u hu => match i, hu with
    | 0, hu => by cases hu; simp [add_nul, iV, go_sem]
    | 1, hu => by cases hu; simp [Addr.add, iV, go_sem]
    | 2, hu => by cases hu; simp [Addr.add, iV, go_sem]
    | i + 3, hu => by simp at hu⟩
  case c => exact fun _ => ⟨_, rfl, by simp, fun i u hu => match i, hu with
    | 0, hu => by cases hu; simp [add_nul, go_sem]
    | 1, hu => by cases hu; simp [Addr.add, go_sem]
    | i + 2, hu => by simp at hu⟩
  rintro w1 ⟨c1, c2, hv, hc, z1, hb⟩
  have HV := Lib.hid hv
  have HC := Lib.hid hc
  clear hv hc
  go_wp2_with fail
  refine (SP.out _ _ _ (HTB.out _ hb) HV.out HC.out).mono ?_
  rintro e w2 ⟨A, k, rfl, hS, h2⟩
  rw [sh_split] at hS ⊢
  rw [sh_check]
  replace hb := hb.trans (h2.mono hb.size)
  obtain ⟨ad, rfl, hB, d0, d1, ⟨A3, k3, d2, hSg⟩, d3⟩ := hS.at_ (i := 0) (x := sh0) rfl
  obtain ⟨ad3, rfl, hB3, g0, g1, g2, g3, g4, g5, g6, g7, g8⟩ := hSg.at_ (i := 1) (g := (((5, 0), (1, 0), zP, zP), 2)) rfl
  simp only [Nat.zero_mul, Nat.one_mul, add_nul, sh0, zP] at d0 d1 d2 d3 g0 g1 g2 g3 g4 g5 g6 g7 g8
  simp only [show ad3.add 9 = ⟨ad3.block, ad3.off + 9, none⟩ from by unfold Addr.add; simp] at g0 g1 g2 g3 g4 g5 g6 g7 g8
  simp only [List.length_cons, List.length_nil] at d2 ⊢
  clear hS hSg h2 c1 c2
  go_wp2_with fail
  refine (EN.out _).mono ?_
  rintro e w3 ⟨rfl, h3⟩
  replace hb := hb.trans (h3.mono hb.size)
  rw [show endV (((5, 0), (1, 0), (0, 0), 0, 0), 2) = (1, 0) from rfl]
  go_wp2_with fail
  refine (CK.out _ _ (HTB.out _ (hb.alloc hb.size _)) (vals_lit _ _ _ _ [2] _ rfl rfl (by simp))).mono ?_
  rintro e w4 ⟨rfl, h4⟩
  rw [sh_two]
  replace hb := hb.trans ((((Below.refl _ _).alloc (Nat.le_refl _) _).trans (h4.mono (by simp))).mono hb.size)
  go_wp2_with fail
  refine (TK.out _ (HTB.out _ hb)).mono ?_
  rintro e w5 ⟨rfl, h5⟩
  rw [takes_4]
  replace hb := hb.trans (h5.mono hb.size)
  go_wp2
  go_ret
  exact ⟨rfl, hb⟩
end Go.Proofs.YtalgmnnimfenpaaDoor
