/- The small case that every law of layer 8 begins with; what the laws call themselves. -/
import Derived.Test.YtjjklchfcklahaaDoorScr
namespace Go.Proofs.YtjjklchfcklahaaDoor
open Go.RowKit
set_option linter.unusedVariables false
set_option linter.unusedSimpArgs false
set_option maxHeartbeats 2000000
set_option maxRecDepth 100000

theorem its8_any (A B : Option Addr) (n c m d : Nat) (w : World) :
    Calls Tryd.prog 11 #[PathA A n c B m d] w fun e w' => e = .returned (PathA A n c B m d) ∧ Below w.heap.size w w' := by
  go_enter Tryd.func11, Tryd.ntmps11
  go_wp2
  refine bodyPost_ret (by simp [results, Tryd.results11, go_sem] <;> rfl) rfl ⟨?_, ?_⟩
  · rfl
  · repeat (first | exact Below.refl _ _ | refine Below.setCell ?_ (by first | (simp; done) | (simp; omega)) _ | refine Below.alloc ?_ (by first | (simp; done) | (simp; omega)) _)

theorem shown8_p1 : parseR [77, 32, 48, 32, 48, 32, 49, 44, 49, 32, 81, 32, 49, 32, 50, 32, 51, 32, 52, 46, 53] = (([1, 2, 3], [(0, 0), (256, 256), (256, 512), (768, 1152)]), 0, 0) := by decide +kernel
theorem shown8_p2 : parseR [77, 32, 48, 32, 120] = (([], []), 4, 80) := by decide +kernel
theorem shown8_p3 : printE [1, 2, 3] [(0, 0), (256, 256), (256, 512), (768, 1152)] = [77, 32, 48, 32, 48, 32, 76, 32, 49, 32, 49, 32, 81, 32, 49, 32, 50, 32, 51, 32, 52, 46, 53] := by decide +kernel
theorem shown8_p4 : pathE [1, 2, 3] [(0, 0), (256, 256), (256, 512), (768, 1152)] = 0 := by decide +kernel

theorem shown8_any (w : World) (hT : Tabs8 w) :
    Calls Tryd.prog 8 #[] w fun e w' => e = .returned (.bool true) ∧ Below w.heap.size w w' := by
  have HTB := Lib.hid (fun (x : World) (hb : Below w.heap.size w x) => hT.step hb)
  clear hT
  have C1 := Lib.hid (show ∀ w, Tabs8 w → Calls Tryd.prog 12 #[.string ⟨#[77, 32, 48, 32, 48, 32, 49, 44, 49, 32, 81, 32, 49, 32, 50, 32, 51, 32, 52, 46, 53]⟩] w fun e w' => ∃ A B c d, e = .returned (.tuple #[PathA A 3 c B 4 d, .int .i64 0, .int .i64 0]) ∧ Vals w' w'.heap.size A ([1, 2, 3].map iV) ∧ Cor w' w'.heap.size B [(0, 0), (256, 256), (256, 512), (768, 1152)] ∧ 4 ≤ d ∧ Below w.heap.size w w' from fun w hT => by
    have := sparse_any ⟨#[77, 32, 48, 32, 48, 32, 49, 44, 49, 32, 81, 32, 49, 32, 50, 32, 51, 32, 52, 46, 53]⟩ [77, 32, 48, 32, 48, 32, 49, 44, 49, 32, 81, 32, 49, 32, 50, 32, 51, 32, 52, 46, 53] w hT rfl (by decide)
    rw [shown8_p1] at this
    exact this)
  have C2 := Lib.hid (show ∀ w, Tabs8 w → Calls Tryd.prog 12 #[.string ⟨#[77, 32, 48, 32, 120]⟩] w fun e w' => ∃ A B c d, e = .returned (.tuple #[PathA A 0 c B 0 d, .int .i64 4, .int .i64 80]) ∧ Below w.heap.size w w' from fun w hT => by
    have := sparse_any ⟨#[77, 32, 48, 32, 120]⟩ [77, 32, 48, 32, 120] w hT rfl (by decide)
    rw [shown8_p2] at this
    exact this.mono fun e w' ⟨A, B, c, d, h1, _, _, _, h2⟩ => ⟨A, B, c, d, h1, h2⟩)
  have C3 := Lib.hid (show ∀ A B c d w, Vals w w.heap.size A ([1, 2, 3].map iV) → Cor w w.heap.size B [(0, 0), (256, 256), (256, 512), (768, 1152)] → 4 ≤ d → Tabs8 w → Calls Tryd.prog 9 #[PathA A 3 c B 4 d] w fun e w' => e = .returned (.tuple #[.string ⟨#[77, 32, 48, 32, 48, 32, 76, 32, 49, 32, 49, 32, 81, 32, 49, 32, 50, 32, 51, 32, 52, 46, 53]⟩, .int .i64 0]) ∧ Below w.heap.size w w' from fun A B c d w h1 h2 h4 hT => by
    have := sprint_any A B c d [1, 2, 3] [(0, 0), (256, 256), (256, 512), (768, 1152)] w hT h1 h2 (by decide) (by decide) h4
    rw [shown8_p3, shown8_p4] at this
    exact this)
  go_enter Tryd.func8, Tryd.ntmps8
  go_wp2_with fail
  refine (C1.out _ (HTB.out _ (Below.refl _ _))).mono ?_
  rintro e w1 ⟨A, B, c, d, rfl, hV, hC, hcap, hb1⟩
  have HCAP := Lib.hid hcap
  have HV := Lib.hid (hV.calls ((Below.refl _ _).alloc (Nat.le_refl _) (.cells #[.slice A 3 c, .slice B 4 d] 25)))
  have HC := Lib.hid (hC.calls ((Below.refl _ _).alloc (Nat.le_refl _) (.cells #[.slice A 3 c, .slice B 4 d] 25)))
  clear hV hC hcap
  go_wp2_with fail
  refine (C3.out A B c d _ HV.out HC.out HCAP.out (HTB.out _ (hb1.alloc hb1.size (.cells #[.slice A 3 c, .slice B 4 d] 25)))).mono ?_
  rintro e w2 ⟨rfl, hb2⟩
  have hb := (hb1.alloc hb1.size (.cells #[.slice A 3 c, .slice B 4 d] 25)).trans (hb2.mono (by have := hb1.size; simp; omega))
  clear hb1 hb2
  go_wp2_with fail
  refine (C2.out _ (HTB.out _ hb)).mono ?_
  rintro e w3 ⟨A3, B3, c3, d3, rfl, hb3⟩
  have hbb := hb.trans (hb3.mono hb.size)
  clear hb hb3
  go_wp2
  go_ret
  exact ⟨by simp, hbb.alloc hbb.size _⟩
end Go.Proofs.YtjjklchfcklahaaDoor
