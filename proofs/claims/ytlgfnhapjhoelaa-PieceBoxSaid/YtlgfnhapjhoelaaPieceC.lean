/- What the program's own pieces answer: Convex, Has. -/
import Derived.Test.YtlgfnhapjhoelaaPieceB
namespace Go.Proofs.Ytlgfnhapjhoelaa
open Go.RowKit
set_option linter.unusedVariables false
set_option linter.unusedSimpArgs false
set_option maxHeartbeats 4000000
set_option maxRecDepth 100000

theorem all_swap {α β : Type} (a : List α) (b : List β) (f : α → β → Bool) : (a.all fun x => b.all fun y => f x y) = b.all fun y => a.all fun x => f x y := by
  rw [Bool.eq_iff_iff]
  simp only [List.all_eq_true]
  exact ⟨fun h y hy x hx => h x hx y hy, fun h x hx y hy => h y hy x hx⟩

theorem pconvex_any (A : Option Addr) (cap : Nat) (l : List Pnt) (w : World) (hr : Cor w w.heap.size A l) (hl : l.length ≤ 16) (hn : allNear l = true) :
    Calls Try.prog 15 #[.slice A l.length cap] w fun e w' => e = .returned (.bool (convexV l)) ∧ Below w.heap.size w w' := by
  have AR0 := fun w hr => parea_any A cap l w hr hl hn
  have IR0 := fun a c w hr ha hc => pinside_any A cap l a c w hr hl hn ha hc
  have HR := Lib.hid hr
  have HN := Lib.hid hn
  clear hr hn
  obtain ⟨L, hL⟩ : ∃ L, l.length = L := ⟨_, rfl⟩
  obtain ⟨V, hV⟩ : ∃ V, areaV l = V := ⟨_, rfl⟩
  rw [hL] at hl AR0 IR0 ⊢
  simp only [hV] at AR0
  have AR := Lib.hid AR0
  have IR := Lib.hid IR0
  have HL := Lib.hid hL
  have HV := Lib.hid hV
  clear hL hV AR0 IR0
  by_cases h3 : L < 3
  · have q1 : decide ((L : Int) < 3) = true := by simp; omega
    have F := Lib.hid (show convexV l = false by unfold convexV; rw [HL.out, show decide (3 ≤ L) = false by simp; omega]; rfl)
    go_enter Try.func15, Try.ntmps15
    go_wp2
    go_ret
    exact ⟨by rw [F.out]; rfl, Below.refl _ _⟩
  · have q1 : decide ((L : Int) < 3) = false := by simp; omega
    by_cases hV0 : V ≤ 0
    · have q2 : decide (V ≤ 0) = true := by simpa using hV0
      have F := Lib.hid (show convexV l = false by unfold convexV; rw [HV.out, show decide (0 < V) = false by simp; omega, Bool.and_false]; rfl)
      clear hV0
      go_enter Try.func15, Try.ntmps15
      go_wp2_with fail
      refine (AR.out _ HR.out).mono ?_
      rintro e w1 ⟨rfl, h1⟩
      go_wp2
      go_ret
      exact ⟨by rw [F.out]; rfl, h1⟩
    · have q2 : decide (V ≤ 0) = false := by simpa using hV0
      have HG := Lib.hid (show convexV l = l.all (hasAll l) by
        unfold convexV; rw [HL.out, HV.out, show decide (3 ≤ L) = true by simp; omega, show decide (0 < V) = true by simp; omega, Bool.true_and, Bool.true_and]
        exact all_swap _ _ _)
      clear hV0
      go_enter Try.func15, Try.ntmps15
      go_wp2_with fail
      refine (AR.out _ HR.out).mono ?_
      rintro e w1 ⟨rfl, h1⟩
      go_wp2
      go_loopw [15] (fun s wr => ∃ k : Nat, s = .int .i64 k ∧ k ≤ L ∧ (l.take k).all (hasAll l) = true ∧ Below w.heap.size w wr) (fun s _ => L - (intOf s).toNat)
      case atStart => exact ⟨0, rfl, Nat.zero_le _, rfl, h1⟩
      case round =>
        clear h1
        obtain ⟨k, rfl, hk, ha, hbW⟩ := hrel
        by_cases hlt : k < L
        · obtain ⟨⟨x, y⟩, hp⟩ : ∃ p, l[k]? = some p := ⟨_, List.getElem?_eq_getElem (by rw [HL.out]; exact hlt)⟩
          obtain ⟨ad, rfl, hB, c1, c2⟩ := (HR.out.step hbW).at_ hp
          dsimp only at c1 c2
          obtain ⟨hx, hy⟩ := near_at HN.out hp
          have q3 : decide ((k : Int) < (L : Int)) = true := by simp; omega
          have q4 : (0 : Int) ≤ (k : Int) := by omega
          have q5 : (k : Int) < (L : Int) := by omega
          have q6 : IntKind.i64.wrap ((k : Int) + 1) = (k : Int) + 1 := IntWalk.i64_in _ (by omega)
          obtain ⟨o, ho⟩ : ∃ o, hasAll l (x, y) = o := ⟨_, rfl⟩
          have IK0 := fun w hr => IR.out x y w hr hx hy
          simp only [ho] at IK0
          have IK := Lib.hid IK0
          have HO := Lib.hid ho
          have HP := Lib.hid hp
          have HA := Lib.hid ha
          have hz := hbW.size
          clear IK0 ho hp ha hx hy
          go_wp2_with fail
          refine (IK.out _ (((HR.out.step hbW).more hz).step ((Below.refl _ _).alloc (Nat.le_refl _) _) |>.more (by simp))).mono ?_
          rintro e w2 ⟨rfl, h2⟩
          have hb2 : Below w.heap.size w w2 := (hbW.alloc hz _).trans (h2.mono (by simp; omega))
          clear h2
          cases o
          · have F := Lib.hid (show convexV l = false by rw [HG.out]; exact all_not l _ (List.mem_of_getElem? HP.out) HO.out)
            go_wp2
            go_ret
            exact ⟨by rw [F.out]; rfl, hb2⟩
          · have F := Lib.hid (all_take l (hasAll l) k HP.out HA.out HO.out)
            go_wp2
            go_roundw
            case rel => exact ⟨k + 1, by go_num, by omega, F.out, hb2⟩
            case measure => simp [intOf]; omega
        · have q3 : decide ((k : Int) < (L : Int)) = false := by simp; omega
          have F := Lib.hid (show convexV l = true by rw [HG.out, ← ha, show k = L by omega, ← HL.out, List.take_length])
          clear ha
          go_wp2
          go_ret
          exact ⟨by rw [F.out]; rfl, hbW⟩

theorem phas_any (A : Option Addr) (cap : Nat) (l : List Pnt) (a c : Int) (w : World) (hr : Cor w w.heap.size A l) (hl : l.length ≤ 16) (hn : allNear l = true) (ha : -1073741824 ≤ a ∧ a ≤ 1073741824) (hc : -1073741824 ≤ c ∧ c ≤ 1073741824) :
    Calls Try.prog 17 #[.slice A l.length cap, P2 a c] w fun e w' => e = .returned (.bool (hasV l (a, c))) ∧ Below w.heap.size w w' := by
  have CV0 := fun w hr => pconvex_any A cap l w hr hl hn
  have IR0 := fun w hr => pinside_any A cap l a c w hr hl hn ha hc
  have HR := Lib.hid hr
  clear hr hn ha hc
  obtain ⟨L, hL⟩ : ∃ L, l.length = L := ⟨_, rfl⟩
  obtain ⟨o, ho⟩ : ∃ o, convexV l = o := ⟨_, rfl⟩
  obtain ⟨o2, ho2⟩ : ∃ o, hasAll l (a, c) = o := ⟨_, rfl⟩
  rw [hL] at hl CV0 IR0 ⊢
  simp only [ho] at CV0
  simp only [ho2] at IR0
  have CV := Lib.hid CV0
  have IR := Lib.hid IR0
  have HS := Lib.hid (show hasV l (a, c) = (o && o2) by unfold hasV; rw [ho, ho2])
  rw [HS.out]
  clear hL ho ho2 CV0 IR0
  cases o
  · go_enter Try.func17, Try.ntmps17
    go_wp2_with fail
    refine (CV.out _ ((HR.out.step ((Below.refl _ _).alloc (Nat.le_refl _) _)).more (by simp))).mono ?_
    rintro e w1 ⟨rfl, h1⟩
    have hb0 : Below w.heap.size w w1 := ((Below.refl _ _).alloc (by simp; try omega) _).trans (h1.mono (by simp; try omega))
    clear h1
    go_wp2
    go_ret
    exact ⟨rfl, hb0⟩
  · go_enter Try.func17, Try.ntmps17
    go_wp2_with fail
    refine (CV.out _ ((HR.out.step ((Below.refl _ _).alloc (Nat.le_refl _) _)).more (by simp))).mono ?_
    rintro e w1 ⟨rfl, h1⟩
    have z1 := h1.size
    simp at z1
    have hs : w.heap.size + 1 ≤ w1.heap.size := by omega
    have c1 : w1.cell? ⟨w.heap.size, 0, none⟩ = some (.int .i64 (a)) := (h1.cell (p := ⟨w.heap.size, 0, none⟩) (by simp; try omega)).trans (by first | simp | simp [go_sem])
    have c2 : w1.cell? ⟨w.heap.size, 1, none⟩ = some (.int .i64 (c)) := (h1.cell (p := ⟨w.heap.size, 1, none⟩) (by simp; try omega)).trans (by first | simp | simp [go_sem])
    have hb0 : Below w.heap.size w w1 := ((Below.refl _ _).alloc (by simp; try omega) _).trans (h1.mono (by simp; try omega))
    clear h1 z1
    go_wp2_with fail
    refine (IR.out _ ((HR.out.step hb0).more hb0.size)).mono ?_
    rintro e w2 ⟨rfl, h2⟩
    go_wp2
    go_ret
    exact ⟨by simp, hb0.trans (h2.mono hb0.size)⟩
end Go.Proofs.Ytlgfnhapjhoelaa
