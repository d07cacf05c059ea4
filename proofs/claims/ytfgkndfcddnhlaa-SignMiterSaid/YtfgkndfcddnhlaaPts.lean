/- Slices of points: a row of points in a block, and what the laws' near answers of it. -/
import Derived.Test.YtfgkndfcddnhlaaRef4
namespace Go.Proofs.Ytfgkndfcddnhlaa
open Go.RowKit
set_option linter.unusedVariables false
set_option linter.unusedSimpArgs false
set_option maxHeartbeats 4000000
set_option maxRecDepth 100000

/-- Block g holds these points, one behind the other. -/
def Row (g : Nat) (l : List (Int × Int)) (x : World) : Prop :=
  g < x.heap.size ∧ ∀ (i : Nat) (p : Int × Int), l[i]? = some p → x.cell? ⟨g, i * 2, none⟩ = some (.int .i64 p.1) ∧ x.cell? ⟨g, i * 2 + 1, none⟩ = some (.int .i64 p.2)
theorem Row.step {g : Nat} {l : List (Int × Int)} {x y : World} (h : Row g l x) (hb : Below x.heap.size x y) : Row g l y :=
  ⟨Nat.lt_of_lt_of_le h.1 hb.size, fun i p hp => ⟨(hb.cell (p := ⟨g, i * 2, none⟩) h.1).trans (h.2 i p hp).1, (hb.cell (p := ⟨g, i * 2 + 1, none⟩) h.1).trans (h.2 i p hp).2⟩⟩
def allNear (l : List (Int × Int)) : Bool := l.all fun p => nearB p.1 p.2

theorem near5_any (g cap : Nat) (l : List (Int × Int)) (w : World) (hr : Row g l w) (hl : l.length ≤ 1000) (hc : l.length ≤ cap) :
    Calls Try.prog 10 #[.slice (some ⟨g, 0, none⟩) l.length cap] w fun e w' => e = .returned (.bool (allNear l)) ∧ Below w.heap.size w w' := by
  have HR := Lib.hid hr
  clear hr
  obtain ⟨L, hL⟩ : ∃ L, l.length = L := ⟨_, rfl⟩
  rw [hL] at hl hc ⊢
  have HL := Lib.hid hL
  clear hL
  go_enter Try.func10, Try.ntmps10
  go_wp2
  go_loopw [3] (fun s3 wr => ∃ k : Nat, s3 = .int .i64 k ∧ k ≤ L ∧ allNear (l.drop k) = allNear l ∧ Below w.heap.size w wr) (fun s3 _ => L - (intOf s3).toNat)
  case atStart => exact ⟨0, rfl, Nat.zero_le _, rfl, Below.refl _ _⟩
  case round =>
    obtain ⟨k, rfl, hk, ha, hb⟩ := hrel
    by_cases hlt : k < L
    · obtain ⟨⟨x, y⟩, hp⟩ : ∃ p, l[k]? = some p := ⟨_, List.getElem?_eq_getElem (by rw [HL.out]; exact hlt)⟩
      obtain ⟨c1, c2⟩ := (HR.out.step hb).2 k _ hp
      have q1 : decide ((k : Int) < (L : Int)) = true := by simp; omega
      have ed : l.drop k = (x, y) :: l.drop (k + 1) := by
        have hk' : k < l.length := by rw [HL.out]; exact hlt
        rw [List.drop_eq_getElem_cons hk']
        rw [List.getElem?_eq_getElem hk'] at hp
        rw [Option.some.inj hp]
      have ea : allNear l = (nearB x y && allNear (l.drop (k + 1))) := by rw [← ha, ed]; rfl
      obtain ⟨b, hbb⟩ : ∃ b, nearB x y = b := ⟨_, rfl⟩
      rw [hbb] at ea
      have EA := Lib.hid ea
      have NB0 := fun w => r4near_any x y w
      simp only [hbb] at NB0
      have NB := Lib.hid NB0
      have e1 : IntKind.i64.wrap ((k : Int) + 1) = (k : Int) + 1 := IntWalk.i64_in _ (by omega)
      clear NB0 hp ed ea hbb ha
      go_wp2_with fail
      refine (NB.out _).mono ?_
      rintro e w2 ⟨rfl, h2⟩
      have hb2 := hb.trans (h2.mono hb.size)
      clear hb h2
      cases b
      · have F := Lib.hid (show allNear l = false by rw [EA.out]; rfl)
        clear EA
        go_wp2
        go_ret
        exact ⟨by rw [F.out]; rfl, hb2⟩
      · have F := Lib.hid (show allNear (l.drop (k + 1)) = allNear l by rw [EA.out]; rfl)
        clear EA
        go_wp2
        go_roundw
        case rel => exact ⟨k + 1, by go_num, by omega, F.out, hb2⟩
        case measure => simp [intOf]; omega
    · have hkL : k = L := by omega
      have F := Lib.hid (show allNear l = true by rw [← ha, hkL, ← HL.out, List.drop_length]; rfl)
      have q1 : decide ((k : Int) < (L : Int)) = false := by simp; omega
      clear ha
      go_wp2
      go_ret
      exact ⟨by rw [F.out]; rfl, hb⟩
end Go.Proofs.Ytfgkndfcddnhlaa
