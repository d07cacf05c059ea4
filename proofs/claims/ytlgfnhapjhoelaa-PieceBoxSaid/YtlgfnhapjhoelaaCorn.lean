/- Slices of corners, from wherever they come: what they hold, and what the laws' bounded answers of them. -/
import Derived.Test.YtlgfnhapjhoelaaRef4
import Derived.Test.YtlgfnhapjhoelaaBoxNum
namespace Go.Proofs.Ytlgfnhapjhoelaa
open Go.RowKit
set_option linter.unusedVariables false
set_option linter.unusedSimpArgs false
set_option maxHeartbeats 4000000
set_option maxRecDepth 100000

theorem block_add (a : Addr) (n : Nat) : (a.add n).block = a.block := by unfold Addr.add; split <;> rfl
theorem add_add (a : Addr) (i j : Nat) : (a.add i).add j = a.add (i + j) := by
  unfold Addr.add
  by_cases hi : i = 0 <;> by_cases hj : j = 0 <;> simp [hi, hj, Nat.add_assoc]
/-- The second cell of the pair at a, as a walk reckons it. -/
def snd2 (a : Addr) : Addr := ⟨a.block, a.off + 1, none⟩
theorem snd2_add (a : Addr) (i : Nat) : a.add (i * 2 + 1) = snd2 (a.add (i * 2)) := by
  rw [← add_add]; rfl
/-- The slice at A holds these corners, all below block B. -/
def Cor (w : World) (B : Nat) (A : Option Addr) (l : List Pnt) : Prop :=
  0 < l.length → ∃ ad, A = some ad ∧ ad.block < B ∧ ∀ (i : Nat) (p : Pnt), l[i]? = some p → w.cell? (ad.add (i * 2)) = some (.int .i64 p.1) ∧ w.cell? ⟨(ad.add (i * 2)).block, (ad.add (i * 2)).off + 1, none⟩ = some (.int .i64 p.2)
theorem Cor.step {w w' : World} {B : Nat} {A : Option Addr} {l : List Pnt} (h : Cor w B A l) (hb : Below B w w') : Cor w' B A l := fun hn => by
  obtain ⟨ad, e, hB, hc⟩ := h hn
  exact ⟨ad, e, hB, fun i p hp => ⟨(hb.cell (by rw [block_add]; exact hB)).trans (hc i p hp).1, (hb.cell (p := ⟨(ad.add (i * 2)).block, (ad.add (i * 2)).off + 1, none⟩) (show (ad.add (i * 2)).block < B by rw [block_add]; exact hB)).trans (hc i p hp).2⟩⟩
theorem Cor.more {w : World} {B B' : Nat} {A : Option Addr} {l : List Pnt} (h : Cor w B A l) (hB : B ≤ B') : Cor w B' A l := fun hn => by
  obtain ⟨ad, e, h1, hc⟩ := h hn
  exact ⟨ad, e, by omega, hc⟩
theorem Cor.at_ {w : World} {B : Nat} {A : Option Addr} {l : List Pnt} (h : Cor w B A l) {i : Nat} {p : Pnt} (hp : l[i]? = some p) :
    ∃ ad, A = some ad ∧ ad.block < B ∧ w.cell? (ad.add (i * 2)) = some (.int .i64 p.1) ∧ w.cell? ⟨(ad.add (i * 2)).block, (ad.add (i * 2)).off + 1, none⟩ = some (.int .i64 p.2) := by
  have hi := (List.getElem?_eq_some_iff.1 hp).1
  obtain ⟨ad, e, hB, hc⟩ := h (by omega)
  exact ⟨ad, e, hB, hc i p hp⟩
def allNear (l : List Pnt) : Bool := l.all fun p => nearB p.1 p.2
def boundedV (l : List Pnt) : Bool := allNear l && decide (l.length ≤ 16)

theorem bounded_any (A : Option Addr) (cap : Nat) (l : List Pnt) (w : World) (hr : Cor w w.heap.size A l) (hl : l.length ≤ 9223372036854775807) :
    Calls Try.prog 9 #[.slice A l.length cap] w fun e w' => e = .returned (.bool (boundedV l)) ∧ Below w.heap.size w w' := by
  have HR := Lib.hid hr
  clear hr
  obtain ⟨L, hL⟩ : ∃ L, l.length = L := ⟨_, rfl⟩
  rw [hL] at hl ⊢
  have HL := Lib.hid hL
  clear hL
  go_enter Try.func9, Try.ntmps9
  go_wp2
  go_loopw [3] (fun s3 wr => ∃ k : Nat, s3 = .int .i64 k ∧ k ≤ L ∧ allNear (l.drop k) = allNear l ∧ Below w.heap.size w wr) (fun s3 _ => L - (intOf s3).toNat)
  case atStart => exact ⟨0, rfl, Nat.zero_le _, rfl, Below.refl _ _⟩
  case round =>
    obtain ⟨k, rfl, hk, ha, hb⟩ := hrel
    by_cases hlt : k < L
    · obtain ⟨⟨x, y⟩, hp⟩ : ∃ p, l[k]? = some p := ⟨_, List.getElem?_eq_getElem (by rw [HL.out]; exact hlt)⟩
      obtain ⟨ad, rfl, hB, c1, c2⟩ := (HR.out.step hb).at_ hp
      have q1 : decide ((k : Int) < (L : Int)) = true := by simp; omega
      have ed : l.drop k = (x, y) :: l.drop (k + 1) := by
        have hk' : k < l.length := by rw [HL.out]; exact hlt
        rw [List.drop_eq_getElem_cons hk']
        rw [List.getElem?_eq_getElem hk'] at hp
        rw [Option.some.inj hp]
      have ea : allNear l = (nearB x y && allNear (l.drop (k + 1))) := by rw [← ha, ed]; rfl
      obtain ⟨b, hbb⟩ : ∃ b, nearB x y = b := ⟨_, rfl⟩
      rw [hbb] at ea
      have EA := Lib.hid ea
      have NB0 := fun w => r4near_any x y w
      simp only [hbb] at NB0
      have NB := Lib.hid NB0
      have e1 : IntKind.i64.wrap ((k : Int) + 1) = (k : Int) + 1 := IntWalk.i64_in _ (by omega)
      clear NB0 hp ed ea hbb ha
      go_wp2_with fail
      refine (NB.out _).mono ?_
      rintro e w2 ⟨rfl, h2⟩
      have hb2 := hb.trans (h2.mono hb.size)
      clear hb h2
      cases b
      · have F := Lib.hid (show boundedV l = false by unfold boundedV; rw [EA.out]; rfl)
        clear EA
        go_wp2
        go_ret
        exact ⟨by rw [F.out]; rfl, hb2⟩
      · have F := Lib.hid (show allNear (l.drop (k + 1)) = allNear l by rw [EA.out]; rfl)
        clear EA
        go_wp2
        go_roundw
        case rel => exact ⟨k + 1, by go_num, by omega, F.out, hb2⟩
        case measure => simp [intOf]; omega
    · have hkL : k = L := by omega
      have F := Lib.hid (show boundedV l = decide ((L : Int) ≤ 16) by
        unfold boundedV
        rw [show allNear l = true by rw [← ha, hkL, ← HL.out, List.drop_length]; rfl, HL.out, Bool.true_and, decide_eq_decide]; omega)
      have q1 : decide ((k : Int) < (L : Int)) = false := by simp; omega
      clear ha
      go_wp2
      go_ret
      exact ⟨by rw [F.out]; simp, hb⟩
end Go.Proofs.Ytlgfnhapjhoelaa
