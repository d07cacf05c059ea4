/- Cuts of slices of points. -/
import Derived.Test.YtjjklchfcklahaaDoorRef8Q
namespace Go.Proofs.YtjjklchfcklahaaDoor
open Go.RowKit
set_option linter.unusedVariables false
set_option linter.unusedSimpArgs false
set_option maxHeartbeats 2000000
set_option maxRecDepth 100000

theorem scut_ps (A : Option Addr) (n c k : Nat) (ki : Int) (hki : (k : Int) = ki) (h1 : k ≤ n) (h2 : n ≤ c) : ∃ A' : Option Addr, (∀ W, (Instr.sliceAt 23 (.slice A n c) (some (.int .i64 ki)) none none).run Tryd.prog W = .ok (.slice A' (n - k) (c - k)) W) ∧ (∀ W, (Instr.slice 23 (.slice A n c) (some (.int .i64 ki)) none none).run Tryd.prog W = .ok (.slice A' (n - k) (c - k)) W) ∧ (k < n → A' = A.map (·.add (k * 2))) := by
  subst hki
  have hs : ∀ W, (Instr.slice 23 (.slice A n c) (some (.int .i64 k)) none none).run Tryd.prog W = .ok (.slice (if c = k then A else A.map (·.add (k * 2))) (n - k) (c - k)) W := fun W => by
    rw [run_slice_l W 23 A n c (by kernel_rfl) .i64 k (by omega) (by omega)]
    have : (Go.sizeOf (Tryd.prog.elem 23)).run Tryd.prog W = .ok 2 W := by kernel_rfl
    rw [this]; rfl
  refine ⟨if c = k then A else A.map (·.add (k * 2)), fun W => ?_, hs, fun h => ?_⟩
  · rw [run_sliceAt_slice W 23 _ _ _ _ (by kernel_rfl)]; exact hs W
  · rw [if_neg (by omega)]
theorem scor_tail {x : World} {B k : Nat} {A A' : Option Addr} {l : List Pnt} (h : Cor x B A l) (hA : k < l.length → A' = A.map (·.add (k * 2))) : Cor x B A' (l.drop k) := fun hn => by
  rw [List.length_drop] at hn
  obtain ⟨ad, rfl, hB, hc⟩ := h (by omega)
  have e := hA (by omega)
  refine ⟨ad.add (k * 2), e, by rw [block_add]; exact hB, fun i p hp => ?_⟩
  have := hc (k + i) p (by rw [List.getElem?_drop] at hp; exact hp)
  rw [add_add, show k * 2 + i * 2 = (k + i) * 2 by omega]
  exact this
theorem shead_ps (A : Option Addr) (n c k : Nat) (ki : Int) (hki : (k : Int) = ki) (h1 : k ≤ n) (h2 : n ≤ c) : ∃ A' : Option Addr, (∀ W, (Instr.sliceAt 23 (.slice A n c) none (some (.int .i64 ki)) none).run Tryd.prog W = .ok (.slice A' k c) W) ∧ (∀ W, (Instr.slice 23 (.slice A n c) none (some (.int .i64 ki)) none).run Tryd.prog W = .ok (.slice A' k c) W) ∧ A' = A := by
  subst hki
  have hs : ∀ W, (Instr.slice 23 (.slice A n c) none (some (.int .i64 k)) none).run Tryd.prog W = .ok (.slice (if c = 0 then A else A.map (·.add (0 * 2))) k c) W := fun W => by
    rw [run_slice_h W 23 A n c (by kernel_rfl) .i64 k (by omega) (by omega)]
    have : (Go.sizeOf (Tryd.prog.elem 23)).run Tryd.prog W = .ok 2 W := by kernel_rfl
    rw [this]; rfl
  refine ⟨if c = 0 then A else A.map (·.add (0 * 2)), fun W => ?_, hs, ?_⟩
  · rw [run_sliceAt_slice W 23 _ _ _ _ (by kernel_rfl)]; exact hs W
  · split
    · rfl
    · cases A <;> rfl
theorem scor_head {x : World} {B k : Nat} {A : Option Addr} {l : List Pnt} (h : Cor x B A l) : Cor x B A (l.take k) := fun hn => by
  rw [List.length_take] at hn
  obtain ⟨ad, rfl, hB, hc⟩ := h (by omega)
  exact ⟨ad, rfl, hB, fun i p hp => hc i p (by rw [List.getElem?_take] at hp; split at hp; exact hp; cases hp)⟩

end Go.Proofs.YtjjklchfcklahaaDoor
