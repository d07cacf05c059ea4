/- What the document's own paths answer: what verbs take, which points are far, whether a path may be. -/
import Derived.Test.YtjjklchfcklahaaDoorCorL
import Derived.Test.YtjjklchfcklahaaDoorScriptNum
namespace Go.Proofs.YtjjklchfcklahaaDoor
open Go.RowKit
set_option linter.unusedVariables false
set_option linter.unusedSimpArgs false
set_option maxHeartbeats 4000000
set_option maxRecDepth 100000

/-- Whole numbers as values. -/
def iV (v : Int) : Value := .int .i64 v
theorem Vals.calls {w w' : World} {A : Option Addr} {vs : List Value} (h : Vals w w.heap.size A vs) (hb : Below w.heap.size w w') : Vals w' w'.heap.size A vs := (h.step hb).more hb.size
theorem ints_at {w : World} {B : Nat} {A : Option Addr} {vs : List Int} (h : Vals w B A (vs.map iV)) {i : Nat} {v : Int} (hp : vs[i]? = some v) : ∃ ad, A = some ad ∧ ad.block < B ∧ w.cell? (ad.add i) = some (.int .i64 v) :=
  h.at_ (u := iV v) (by rw [List.getElem?_map, hp]; rfl)

theorem r7takes_any (v : Int) (w : World) :
    Calls Tryd.prog 21 #[.int .i64 v] w fun e w' => e = .returned (.int .i64 (takesV v)) ∧ Below w.heap.size w w' := by
  by_cases h1 : v = 1
  · subst h1
    go_enter Tryd.func21, Tryd.ntmps21
    go_wp2
    go_ret
    exact ⟨rfl, Below.refl _ _⟩
  · by_cases h2 : v = 2
    · subst h2
      go_enter Tryd.func21, Tryd.ntmps21
      go_wp2
      go_ret
      exact ⟨rfl, Below.refl _ _⟩
    · by_cases h3 : v = 3
      · subst h3
        go_enter Tryd.func21, Tryd.ntmps21
        go_wp2
        go_ret
        exact ⟨rfl, Below.refl _ _⟩
      · by_cases h4 : v = 4
        · subst h4
          go_enter Tryd.func21, Tryd.ntmps21
          go_wp2
          go_ret
          exact ⟨rfl, Below.refl _ _⟩
        · by_cases h5 : v = 5
          · subst h5
            go_enter Tryd.func21, Tryd.ntmps21
            go_wp2
            go_ret
            exact ⟨rfl, Below.refl _ _⟩
          · have F := Lib.hid (show takesV v = -1 by unfold takesV; rw [if_neg (by omega), if_neg h3, if_neg h4, if_neg h5])
            have q1 : (v == 1) = false := by simpa using h1
            have q2 : (v == 2) = false := by simpa using h2
            have q3 : (v == 3) = false := by simpa using h3
            have q4 : (v == 4) = false := by simpa using h4
            have q5 : (v == 5) = false := by simpa using h5
            go_enter Tryd.func21, Tryd.ntmps21
            go_wp2
            go_ret
            exact ⟨by rw [F.out]; rfl, Below.refl _ _⟩

theorem r7far_any (x y : Int) (w : World) :
    Calls Tryd.prog 38 #[P2 x y] w fun e w' => e = .returned (.bool (farV (x, y))) ∧ Below w.heap.size w w' := by
  obtain ⟨b, hb⟩ : ∃ b, farV (x, y) = b := ⟨_, rfl⟩
  rw [hb]
  have hd : decide (¬ ((-268435456 ≤ x ∧ x ≤ 268435456) ∧ (-268435456 ≤ y ∧ y ≤ 268435456))) = b := hb
  clear hb
  by_cases h1 : x < -268435456
  · have F := Lib.hid (show true = b by rw [← hd]; simp; omega)
    have q1 : decide (x < -268435456) = true := by simpa using h1
    clear hd
    go_enter Tryd.func38, Tryd.ntmps38
    go_wp2
    go_ret
    exact ⟨by rw [← F.out]; rfl, (Below.refl _ _).alloc (Nat.le_refl _) _⟩
  · have q1 : decide (x < -268435456) = false := by simpa using h1
    by_cases h2 : 268435456 < x
    · have F := Lib.hid (show true = b by rw [← hd]; simp; omega)
      have q2 : decide (268435456 < x) = true := by simpa using h2
      have p2 : decide (x > 268435456) = true := by simpa using h2
      clear hd
      go_enter Tryd.func38, Tryd.ntmps38
      go_wp2
      go_ret
      exact ⟨by rw [← F.out]; rfl, (Below.refl _ _).alloc (Nat.le_refl _) _⟩
    · have q2 : decide (268435456 < x) = false := by simpa using h2
      have p2 : decide (x > 268435456) = false := by simpa using h2
      by_cases h3 : y < -268435456
      · have F := Lib.hid (show true = b by rw [← hd]; simp; omega)
        have q3 : decide (y < -268435456) = true := by simpa using h3
        clear hd
        go_enter Tryd.func38, Tryd.ntmps38
        go_wp2
        go_ret
        exact ⟨by rw [← F.out]; rfl, (Below.refl _ _).alloc (Nat.le_refl _) _⟩
      · have q3 : decide (y < -268435456) = false := by simpa using h3
        by_cases h4 : 268435456 < y
        · have F := Lib.hid (show true = b by rw [← hd]; simp; omega)
          have q4 : decide (268435456 < y) = true := by simpa using h4
          have p4 : decide (y > 268435456) = true := by simpa using h4
          clear hd
          go_enter Tryd.func38, Tryd.ntmps38
          go_wp2
          go_ret
          exact ⟨by rw [← F.out]; rfl, (Below.refl _ _).alloc (Nat.le_refl _) _⟩
        · have F := Lib.hid (show false = b by rw [← hd]; simp; omega)
          have q4 : decide (268435456 < y) = false := by simpa using h4
          have p4 : decide (y > 268435456) = false := by simpa using h4
          clear hd
          go_enter Tryd.func38, Tryd.ntmps38
          go_wp2
          go_ret
          exact ⟨by rw [← F.out]; rfl, (Below.refl _ _).alloc (Nat.le_refl _) _⟩
end Go.Proofs.YtjjklchfcklahaaDoor
