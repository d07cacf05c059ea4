/- What the document's own layer 6 answers of two pieces: SameOne. -/
import Derived.Test.YtlgfnhapjhoelaaCorn
namespace Go.Proofs.Ytlgfnhapjhoelaa
open Go.RowKit
set_option linter.unusedVariables false
set_option linter.unusedSimpArgs false
set_option maxHeartbeats 8000000
set_option maxRecDepth 100000

theorem ne_pt (x y u v : Int) (b : Bool) (h : (x == u && y == v) = b) (w : World) :
    (binOp .neq 24 (P2 x y) (P2 u v)).run Try.prog w = .ok (.bool (!b)) w := by
  subst h
  cases hx : (x == u) <;> cases hy : (y == v) <;> simp [go_sem, hx, hy]
theorem drop_cons' {α : Type} {l : List α} {k : Nat} {p : α} (h : l[k]? = some p) : l.drop k = p :: l.drop (k + 1) := by
  have hk := (List.getElem?_eq_some_iff.1 h).1
  rw [List.drop_eq_getElem_cons hk, (List.getElem?_eq_some_iff.1 h).2]
def sameV (a b : List Pnt) : Bool := decide (a = b)
theorem sameone_any (A A' : Option Addr) (cap cap' : Nat) (a b : List Pnt) (w : World) (hr : Cor w w.heap.size A a) (hr' : Cor w w.heap.size A' b) (hl : a.length < 4611686018427387904) (hl' : b.length < 4611686018427387904) :
    Calls Try.prog 19 #[.slice A a.length cap, .slice A' b.length cap'] w fun e w' => e = .returned (.bool (sameV a b)) ∧ Below w.heap.size w w' := by
  have HR := Lib.hid hr
  have HR' := Lib.hid hr'
  clear hr hr'
  obtain ⟨L, hL⟩ : ∃ L, a.length = L := ⟨_, rfl⟩
  obtain ⟨M, hM⟩ : ∃ M, b.length = M := ⟨_, rfl⟩
  rw [hL] at hl ⊢
  rw [hM] at hl' ⊢
  have HL := Lib.hid hL
  have HM := Lib.hid hM
  clear hL hM
  by_cases hLM : L = M
  · subst hLM
    have q0 : ((L : Int) != (L : Int)) = false := by simp
    go_enter Try.func19, Try.ntmps19
    go_wp2
    go_loopw [5] (fun s5 wr => ∃ k : Nat, s5 = .int .i64 k ∧ k ≤ L ∧ decide (a.drop k = b.drop k) = sameV a b ∧ Below w.heap.size w wr) (fun s5 _ => L - (intOf s5).toNat)
    case atStart => exact ⟨0, rfl, Nat.zero_le _, rfl, Below.refl _ _⟩
    case round =>
      obtain ⟨k, rfl, hk, hs, hbW⟩ := hrel
      by_cases hlt : k < L
      · obtain ⟨⟨x, y⟩, hp⟩ : ∃ p, a[k]? = some p := ⟨_, List.getElem?_eq_getElem (by rw [HL.out]; exact hlt)⟩
        obtain ⟨⟨u, v⟩, hq⟩ : ∃ p, b[k]? = some p := ⟨_, List.getElem?_eq_getElem (by rw [HM.out]; exact hlt)⟩
        obtain ⟨ad, rfl, hB, c1, c2⟩ := (HR.out.step hbW).at_ hp
        obtain ⟨ad', rfl, hB', c3, c4⟩ := (HR'.out.step hbW).at_ hq
        dsimp only at c1 c2 c3 c4
        have q1 : decide ((k : Int) < (L : Int)) = true := by simp; omega
        have q2 : (0 : Int) ≤ (k : Int) := by omega
        have q3 : (k : Int) < (L : Int) := by omega
        have q4 : IntKind.i64.wrap ((k : Int) + 1) = (k : Int) + 1 := IntWalk.i64_in _ (by omega)
        have d1 := drop_cons' hp
        have d2 := drop_cons' hq
        cases hb : (x == u && y == v)
        · have NE := fun w => ne_pt x y u v false hb w
          have F := Lib.hid (show sameV a b = false by
            rw [← hs, d1, d2]
            simp at hb ⊢
            intro e1 e2; exact absurd e2 (hb e1))
          clear hs hp hq d1 d2 hb
          go_upto_region 6 with fail
          go_region
          go_wp2
          go_ret
          exact ⟨by rw [F.out]; rfl, hbW.drew⟩
        · have NE := fun w => ne_pt x y u v true hb w
          have F := Lib.hid (show decide (a.drop (k + 1) = b.drop (k + 1)) = sameV a b by
            rw [← hs, d1, d2]
            simp at hb ⊢
            simp [hb.1, hb.2])
          clear hs hp hq d1 d2 hb
          go_upto_region 6 with fail
          go_region
          go_wp2
          go_roundw
          case rel => exact ⟨k + 1, by go_num, by omega, F.out, hbW.drew⟩
          case measure => simp [intOf]; omega
      · have F := Lib.hid (show sameV a b = true by
          rw [← hs, show k = L by omega, decide_eq_true_iff]
          rw [List.drop_of_length_le (by rw [HL.out]; exact Nat.le_refl _), List.drop_of_length_le (by rw [HM.out]; exact Nat.le_refl _)])
        have q1 : decide ((k : Int) < (L : Int)) = false := by simp; omega
        clear hs
        go_wp2
        go_ret
        exact ⟨by rw [F.out]; rfl, hbW⟩
  · have q0 : ((L : Int) != (M : Int)) = true := by simp; omega
    have F := Lib.hid (show sameV a b = false by
      unfold sameV; rw [decide_eq_false_iff_not]; intro e; apply hLM; rw [← HL.out, ← HM.out, e])
    clear hLM
    go_enter Try.func19, Try.ntmps19
    go_wp2
    go_ret
    exact ⟨by rw [F.out]; rfl, Below.refl _ _⟩
end Go.Proofs.Ytlgfnhapjhoelaa
