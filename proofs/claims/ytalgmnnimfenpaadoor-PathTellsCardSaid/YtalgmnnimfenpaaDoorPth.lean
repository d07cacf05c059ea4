/- A path is split: the program's own answer. The contracts of the landed path: q7takes_any, q7check_any, q7split_any, q7join_any, q7shift_any, q7dot_any, q7end_any. -/
import Derived.Test.YtalgmnnimfenpaaDoorPthP
import Derived.Test.YtalgmnnimfenpaaDoorPthS
namespace Go.Proofs.YtalgmnnimfenpaaDoor
open Go.RowKit Q7
set_option linter.unusedVariables false
set_option linter.unusedSimpArgs false
set_option maxHeartbeats 4000000
set_option maxRecDepth 100000

theorem q7split_bad (A B : Option Addr) (cv cp : Nat) (vs : List Int) (ps : List Pnt) (w : World) (hT : Tab7 w) (hr : Vals w w.heap.size A (vs.map iV)) (hq : Cor w w.heap.size B ps) (hl : vs.length ≤ 2000) (hp : ps.length ≤ 2000) (hc : pathE vs ps ≠ 0) :
    Calls Tryd.prog 11 #[PathA A vs.length cv B ps.length cp] w fun e w' => e = .returned (.tuple #[.slice none 0 0, .int .i64 (pathE vs ps)]) ∧ Below w.heap.size w w' := by
  have hb0 : Below w.heap.size w (w.alloc (Obj.cells #[.slice A vs.length cv, .slice B ps.length cp] 25)) := (Below.refl _ w).alloc (Nat.le_refl _) _
  have C0 := q7check_any A B cv cp vs ps _ (hT.step hb0) (hr.calls hb0) ((hq.step hb0).more hb0.size) hl hp
  obtain ⟨c, hcc⟩ : ∃ c, pathE vs ps = c := ⟨_, rfl⟩
  rw [hcc] at C0 hc ⊢
  have q1 : (c != 0) = true := by simpa using hc
  have CK := Lib.hid C0
  clear C0 hcc hr hq hl hp hT hb0
  go_enter Tryd.func11, Tryd.ntmps11
  go_wp2_with fail
  refine (CK.out).mono ?_
  rintro e w1 ⟨rfl, h1⟩
  have hb : Below w.heap.size w w1 := ((Below.refl _ _).alloc (Nat.le_refl _) _).trans (h1.mono (by simp))
  clear h1
  go_wp2
  go_ret2
  exact ⟨rfl, hb⟩

theorem q7split_good (A B : Option Addr) (cv cp : Nat) (vs : List Int) (ps : List Pnt) (w : World) (hT : Tab7 w) (hr : Vals w w.heap.size A (vs.map iV)) (hq : Cor w w.heap.size B ps) (hl : vs.length ≤ 2000) (hp : ps.length ≤ 2000) (hcv : vs.length ≤ cv) (hcp : ps.length ≤ cp) (hcp2 : cp ≤ 9223372036854775807) (hc : pathE vs ps = 0) :
    Calls Tryd.prog 11 #[PathA A vs.length cv B ps.length cp] w fun e w' => ∃ A' c', e = .returned (.tuple #[.slice A' (splitV vs ps).length c', .int .i64 0]) ∧ Subs w' w'.heap.size A' (splitV vs ps) ∧ Below w.heap.size w w' := by
  obtain ⟨k1, k2, k3, k4⟩ := check_ok.1 hc
  have hb0 : Below w.heap.size w (w.alloc (Obj.cells #[.slice A vs.length cv, .slice B ps.length cp] 25)) := (Below.refl _ w).alloc (Nat.le_refl _) _
  have C0 := q7check_any A B cv cp vs ps _ (hT.step hb0) (hr.calls hb0) ((hq.step hb0).more hb0.size) hl hp
  rw [hc] at C0
  have HR := Lib.hid hr
  have HQ := Lib.hid hq
  have HT := Lib.hid hT
  obtain ⟨F, hF⟩ : ∃ F, splitV vs ps = F := ⟨_, rfl⟩
  have HF0 := Lib.hid (show (runP (vs.drop 0) ([], zP, ps)).1 = F from hF)
  obtain ⟨L, hL⟩ : ∃ L, vs.length = L := ⟨_, rfl⟩
  obtain ⟨M, hM⟩ : ∃ M, ps.length = M := ⟨_, rfl⟩
  rw [hL, hM] at C0
  rw [hL, hM, hF]
  rw [hL] at hl hcv
  rw [hM] at hp hcp k3
  have CK := Lib.hid C0
  have HL := Lib.hid hL
  have HM := Lib.hid hM
  have HK2 := Lib.hid k2
  have HK3 := Lib.hid k3
  clear C0 hr hq hF hL hM k1 k2 k3 k4 hc hT hb0
  go_enter Tryd.func11, Tryd.ntmps11
  go_wp2_with fail
  refine (CK.out).mono ?_
  rintro e w1 ⟨rfl, h1⟩
  have z1 := h1.size
  simp at z1
  have d0 : w1.cell? ⟨w.heap.size, 0, none⟩ = some (.slice A L cv) := (h1.cell (p := ⟨w.heap.size, 0, none⟩) (by simp)).trans (by simp)
  have d1 : w1.cell? ⟨w.heap.size, 1, none⟩ = some (.slice B M cp) := (h1.cell (p := ⟨w.heap.size, 1, none⟩) (by simp)).trans (by simp)
  have hb1 : Below w.heap.size w w1 := ((Below.refl _ _).alloc (Nat.le_refl _) _).trans (h1.mono (by simp))
  clear h1
  obtain ⟨G, hG⟩ : ∃ G, w1.heap.size = G := ⟨_, rfl⟩
  go_upto_region 5 with fail
  refine any_gen (fun z => MS G (.slice A L cv) (.slice B M cp) (.slice none 0 0) zP w1 z) ⟨by subst hG; simp [go_sem], by subst hG; simp [go_sem], by subst hG; simp [go_sem], by subst hG; simp [go_sem, zP], by subst hG; simp [go_sem, zP], fun j => by subst hG; first | rfl | simp [go_sem], by subst hG; exact (Below.refl _ _).alloc (Nat.le_refl _) _, by subst hG; simp⟩ ?_
  rintro w2 hMS
  have HTab := Lib.hid (show Tab7 w1 from HT.out.step hb1)
  have HL0 := Lib.hid (show SplL vs F G w1 w2 from ⟨0, A, L, cv, B, M, cp, .slice none 0 0, zP, [], 5, ps, hMS, ⟨by rw [← hG]; exact (HR.out.step hb1).more hb1.size, by rw [← hG]; exact (HQ.out.step hb1).more hb1.size⟩, ⟨by rw [List.drop_zero]; exact HL.out.symm, hcv, HM.out.symm, hcp, hcp2⟩, ⟨by rw [List.drop_zero]; exact HK2.out, by rw [List.drop_zero]; exact HK3.out, HF0.out⟩, .inl ⟨rfl, [], ⟨World.ownsRow_nil _ _ _ _, fun k x hx => by simp at hx⟩⟩, ⟨Nat.zero_le _, Nat.le_refl _, fun y hy => by cases hy⟩⟩)
  have HGe := Lib.hid hG.symm
  have hwG : w.heap.size ≤ G := by rw [← hG]; exact hb1.size
  clear hMS d0 d1 hG
  go_wp2_with fail
  go_loopw [] (fun wr => SplL vs F G w1 wr) (fun wr => left G wr)
  case atStart => exact HL0.out
  case round =>
    have hst : ∃ A n c, wr.cell? ⟨G, 0, none⟩ = some (.slice A n c) := by
      obtain ⟨i, A3, n, c, B3, m, d, vo, p, out, prev, rest, hM, _⟩ := hrel
      exact ⟨_, _, _, hM.c0⟩
    obtain ⟨i, A3, n, c, B3, m, d, vo, p, out, prev, rest, hM, ⟨hA, hB⟩, ⟨hn, hnc, hm, hmd, hd9⟩, ⟨hc, hne, hF⟩, hS, ⟨hi, hol, hsl⟩⟩ := hrel
    have c0 := hM.c0
    have c2 := hM.c2
    have hiL : i ≤ L := by rw [← HL.out]; exact hi
    by_cases hn0 : n = 0
    · subst hn0
      have hd0 := left_zero hn
      rw [hd0] at hF
      obtain ⟨cs, ho⟩ := hS.outC
      obtain ⟨A9, c9, rfl, hsub⟩ := ho.subs
      have hoF : out = F := hF
      subst hoF
      have HSU := Lib.hid hsub
      have HBW := Lib.hid (hb1.trans (hM.bel.mono hwG))
      have q1 : decide (((0 : Nat) : Int) > 0) = false := by simp
      clear hM hA hB hn hnc hm hmd hd9 hc hne hF hS hi hol hsl hsub ho hd0
      go_wp2
      go_ret2
      exact ⟨A9, c9, rfl, HSU.out, HBW.out⟩
    · obtain ⟨v, t, hd⟩ : ∃ v t, vs.drop i = v :: t := by
        cases h : vs.drop i with
        | nil => rw [h] at hn; exact absurd hn hn0
        | cons v t => exact ⟨v, t, rfl⟩
      have hlen : n = t.length + 1 := by rw [hn, hd]; rfl
      have hvl : n ≤ 1000000 := by rw [hn, List.length_drop, HL.out]; omega
      have hk : takesV v ≤ (m : Int) := by
        rw [hd] at hne hc
        obtain ⟨_, _, c3⟩ := chk_cons hc
        have := needs_nn t v c3
        unfold needs at hne
        omega
      have ST := Lib.hid (step_any (v := v) (prev := prev) (t := t) (ps := rest) (out := out) (n := n) (c := c) (m := m) (d := d) HGe.out HTab.out hM (hd ▸ hA) hlen hnc hB hm hmd hk hvl hd9 (hd ▸ hc) hS (by omega) (fun y hy => by have := hsl y hy; omega))
      have NX := Lib.hid (fun y => SplL.next (y := y) (x := wr) (w := w1) (G := G) (A := A3) (B := B3) (vo := vo) hd hn hnc hm hmd hd9 hc hne hF hi hol hsl)
      have LN := Lib.hid (left_is c0)
      have q1 : decide ((n : Int) > 0) = true := by simp; omega
      have q2 : decide ((0 : Int) < (n : Int)) = true := by simp; omega
      clear hM hA hB hn hnc hm hmd hd9 hc hne hF hS hi hol hsl hd hlen hvl hk c2
      go_wp2_with fail
      refine (ST.out).mono ?_
      rintro e w5 ⟨rfl, hQ⟩
      obtain ⟨hrel2, A5, c5, hc5⟩ := NX.out _ hQ
      have HR2 := Lib.hid hrel2
      have L5 := Lib.hid (left_is hc5)
      clear hrel2 hQ hc5 c0
      go_wp2
      go_roundw
      case rel => exact HR2.out
      case measure => rw [L5.out, LN.out]; omega

theorem q7split_any (A B : Option Addr) (cv cp : Nat) (vs : List Int) (ps : List Pnt) (w : World) (hT : Tab7 w) (hr : Vals w w.heap.size A (vs.map iV)) (hq : Cor w w.heap.size B ps) (hl : vs.length ≤ 2000) (hp : ps.length ≤ 2000) (hcv : vs.length ≤ cv) (hcp : ps.length ≤ cp) (hcp2 : cp ≤ 9223372036854775807) :
    Calls Tryd.prog 11 #[PathA A vs.length cv B ps.length cp] w fun e w' => ∃ A' c', e = .returned (.tuple #[.slice A' (splitE vs ps).length c', .int .i64 (pathE vs ps)]) ∧ Subs w' w'.heap.size A' (splitE vs ps) ∧ Below w.heap.size w w' := by
  by_cases hc : pathE vs ps = 0
  · rw [splitE_ok hc, hc]
    exact q7split_good A B cv cp vs ps w hT hr hq hl hp hcv hcp hcp2 hc
  · rw [splitE_bad hc]
    refine (q7split_bad A B cv cp vs ps w hT hr hq hl hp hc).mono ?_
    rintro e w' ⟨rfl, hb⟩
    exact ⟨none, 0, rfl, fun h => absurd h (Nat.lt_irrefl 0), hb⟩
end Go.Proofs.YtalgmnnimfenpaaDoor
