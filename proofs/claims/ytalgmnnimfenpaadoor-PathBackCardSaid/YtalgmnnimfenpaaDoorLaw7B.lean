/- The walk of PathBack: subpaths that were split are split again, when they were joined. -/
import Derived.Test.YtalgmnnimfenpaaDoorPin7
namespace Go.Proofs.YtalgmnnimfenpaaDoor
open Go.RowKit
set_option linter.unusedVariables false
set_option linter.unusedSimpArgs false
set_option maxHeartbeats 4000000
set_option maxRecDepth 100000

theorem back_far (A B : Option Addr) (cv cp : Nat) (vs : List Int) (ps : List Pnt) (w : World) (hin : PathIn w A B cv cp vs ps) (h : bnd7 vs.length ps.length = false) :
    Calls Tryd.prog 5 #[PathA A vs.length cv B ps.length cp] w fun e w' => e = .returned (.bool true) ∧ Below w.heap.size w w' := by
  have HTB := Lib.hid (fun (x : World) (hb : Below w.heap.size w x) => hin.tb.step hb)
  obtain ⟨n, hn⟩ : ∃ n, vs.length = n := ⟨_, rfl⟩
  obtain ⟨m, hm⟩ : ∃ m, ps.length = m := ⟨_, rfl⟩
  rw [hn, hm] at h ⊢
  have HB := Lib.hid h
  clear h hn hm
  go_enter Tryd.func5, Tryd.ntmps5
  go_wp2_with fail
  refine (bounded7_any A B n cv m cp _).mono ?_
  rintro e w1 ⟨rfl, h1⟩
  rw [HB.out]
  have hb := ((Below.refl _ w).alloc (Nat.le_refl _) _).trans (h1.mono (by simp))
  clear h1
  go_wp2_with fail
  refine (shown7_any _ (HTB.out _ hb)).mono ?_
  rintro e w2 ⟨rfl, h2⟩
  go_wp2
  go_ret
  exact ⟨rfl, hb.trans (h2.mono hb.size)⟩
theorem back_long (A B : Option Addr) (cv cp : Nat) (vs : List Int) (ps : List Pnt) (w : World) (hin : PathIn w A B cv cp vs ps) (h : bnd7 vs.length ps.length = true) (h2 : 250 < vs.length) :
    Calls Tryd.prog 5 #[PathA A vs.length cv B ps.length cp] w fun e w' => e = .returned (.bool true) ∧ Below w.heap.size w w' := by
  have HTB := Lib.hid (fun (x : World) (hb : Below w.heap.size w x) => hin.tb.step hb)
  obtain ⟨n, hn⟩ : ∃ n, vs.length = n := ⟨_, rfl⟩
  obtain ⟨m, hm⟩ : ∃ m, ps.length = m := ⟨_, rfl⟩
  rw [hn, hm] at h
  rw [hn] at h2
  rw [hn, hm]
  have q1 : decide ((n : Int) > 250) = true := by simp; omega
  have q2 : decide (250 < (n : Int)) = true := by simp; omega
  have q3 : decide (250 < n) = true := by simp; omega
  have HB := Lib.hid h
  clear h hn hm
  go_enter Tryd.func5, Tryd.ntmps5
  go_wp2_with fail
  refine (bounded7_any A B n cv m cp _).mono ?_
  rintro e w1 ⟨rfl, h1⟩
  rw [HB.out]
  have c1 : w1.cell? ⟨w.heap.size, 0, none⟩ = some (.slice A n cv) := (h1.cell (p := ⟨w.heap.size, 0, none⟩) (by simp)).trans (by simp)
  have hb := ((Below.refl _ w).alloc (Nat.le_refl _) _).trans (h1.mono (by simp))
  clear h1
  go_wp2_with fail
  refine (shown7_any _ (HTB.out _ hb)).mono ?_
  rintro e w2 ⟨rfl, h2⟩
  go_wp2
  go_ret
  exact ⟨rfl, hb.trans (h2.mono hb.size)⟩
theorem back_main (A B : Option Addr) (cv cp : Nat) (vs : List Int) (ps : List Pnt) (w : World) (hin : PathIn w A B cv cp vs ps) (h : bnd7 vs.length ps.length = true) (h2 : vs.length ≤ 250) :
    Calls Tryd.prog 5 #[PathA A vs.length cv B ps.length cp] w fun e w' => e = .returned (.bool true) ∧ Below w.heap.size w w' := by
  have HTB := Lib.hid (fun (x : World) (hb : Below w.heap.size w x) => hin.tb.step hb)
  obtain ⟨b1, b2⟩ := bnd_ok h
  obtain ⟨n, hn⟩ : ∃ n, vs.length = n := ⟨_, rfl⟩
  obtain ⟨m, hm⟩ : ∃ m, ps.length = m := ⟨_, rfl⟩
  obtain ⟨k, hk⟩ : ∃ k, pathE vs ps = k := ⟨_, rfl⟩
  obtain ⟨F, hF⟩ : ∃ F, splitE vs ps = F := ⟨_, rfl⟩
  obtain ⟨L, hL⟩ : ∃ L, F.length = L := ⟨_, rfl⟩
  have hLn : L ≤ n := by rw [← hL, ← hF, ← hn]; exact splitE_few vs ps
  have hsg : ∀ x ∈ F, x.2.1.length ≤ n := by rw [← hF, ← hn]; exact splitE_segs vs ps
  have SPL := Lib.hid (show ∀ w, PathIn w A B cv cp vs ps → Calls Tryd.prog 11 #[PathA A n cv B m cp] w fun e w' => ∃ A' c', e = .returned (.tuple #[.slice A' L c', .int .i64 k]) ∧ Subs w' w'.heap.size A' F ∧ Below w.heap.size w w' from fun w hi => by
    have := q7split_any A B cv cp vs ps w hi.tb hi.rv hi.rp (by omega) (by omega) hi.lv hi.lp hi.mp
    rw [hn, hm, hF, hk, hL] at this
    exact this)
  have HIN := Lib.hid hin
  have HK := Lib.hid hk
  have HF := Lib.hid hF
  have HL := Lib.hid hL
  have HSG := Lib.hid hsg
  rw [hn, hm] at h
  rw [hn] at h2
  rw [hn, hm]
  have HN := Lib.hid hn
  have q1 : decide ((n : Int) > 250) = false := by simp; omega
  have q2 : decide (250 < (n : Int)) = false := by simp; omega
  have q3 : decide (250 < n) = false := by simp; omega
  have HB := Lib.hid h
  clear h hn hm hin hk hF hL hsg
  go_enter Tryd.func5, Tryd.ntmps5
  go_wp2_with fail
  refine (bounded7_any A B n cv m cp _).mono ?_
  rintro e w1 ⟨rfl, h1⟩
  rw [HB.out]
  have z1 := h1.size
  simp at z1
  have c1 : w1.cell? ⟨w.heap.size, 0, none⟩ = some (.slice A n cv) := (h1.cell (p := ⟨w.heap.size, 0, none⟩) (by simp)).trans (by simp)
  have c2 : w1.cell? ⟨w.heap.size, 1, none⟩ = some (.slice B m cp) := (h1.cell (p := ⟨w.heap.size, 1, none⟩) (by simp)).trans (by simp)
  have hb := ((Below.refl _ w).alloc (Nat.le_refl _) _).trans (h1.mono (by simp))
  clear h1
  go_wp2_with fail
  refine (shown7_any _ (HTB.out _ hb)).mono ?_
  rintro e w2 ⟨rfl, h2⟩
  replace c1 := (h2.cell (by dsimp only; omega)).trans c1
  replace c2 := (h2.cell (by dsimp only; omega)).trans c2
  replace hb := hb.trans (h2.mono hb.size)
  clear h2
  go_wp2_with fail
  refine (SPL.out _ (HIN.out.calls hb)).mono ?_
  rintro e w3 ⟨A3, k3, rfl, hS, h3⟩
  replace hb := hb.trans (h3.mono hb.size)
  clear h3 c1 c2
  by_cases hk0 : k = 0
  · subst hk0
    have hF2 : F = splitV vs ps := by rw [← HF.out]; exact splitE_ok HK.out
    have hj := check_join HK.out (by rw [HN.out]; omega)
    have hs := split_back HK.out
    rw [← hF2] at hj hs
    have hje : splitE (joinVs F) (joinPs F) = F := by rw [splitE_ok hj]; exact hs
    have hjl : (joinVs F).length ≤ 512 := (check_ok.1 hj).1
    have hjp := joinPs_le F
    obtain ⟨J, hJ⟩ : ∃ J, (joinVs F).length = J := ⟨_, rfl⟩
    obtain ⟨P, hP⟩ : ∃ P, (joinPs F).length = P := ⟨_, rfl⟩
    have JN := Lib.hid (show Calls Tryd.prog 26 #[.slice A3 L k3] w3 fun e w' => ∃ A' c' B' d', e = .returned (PathA A' J c' B' P d') ∧ Vals w' w'.heap.size A' ((joinVs F).map iV) ∧ Cor w' w'.heap.size B' (joinPs F) ∧ ((J ≤ c' ∧ P ≤ d') ∧ d' ≤ 9223372036854775807) ∧ Below w3.heap.size w3 w' by
      have := q7join_any A3 k3 F w3 hS (by rw [HL.out]; omega) (fun x hx => by have := HSG.out x hx; omega) (by omega) (by omega)
      rw [hJ, hP, HL.out] at this
      exact this)
    have SP2 := Lib.hid (show ∀ A B cv cp w, Vals w w.heap.size A ((joinVs F).map iV) → Cor w w.heap.size B (joinPs F) → (Tab7 w ∧ (J ≤ cv ∧ P ≤ cp) ∧ cp ≤ 9223372036854775807) → Calls Tryd.prog 11 #[PathA A J cv B P cp] w fun e w' => ∃ A' c', e = .returned (.tuple #[.slice A' L c', .int .i64 0]) ∧ Subs w' w'.heap.size A' F ∧ Below w.heap.size w w' from fun A B cv cp w hr hq hc => by
      have := q7split_any A B cv cp (joinVs F) (joinPs F) w hc.1 hr hq (by omega) (by omega) (by rw [hJ]; exact hc.2.1.1) (by rw [hP]; exact hc.2.1.2) hc.2.2
      rw [hje, hj, hJ, hP, HL.out] at this
      exact this)
    have SBS := Lib.hid (show ∀ A c w, Subs w w.heap.size A F → Calls Tryd.prog 19 #[.slice A L c] w fun e w' => ∃ A' c', e = .returned (.slice A' L c') ∧ Subs w' w'.heap.size A' F ∧ Below w.heap.size w w' from fun A c w hs => by
      have := subs7_any A c F w hs (by rw [HL.out]; omega) (fun x hx => by have := HSG.out x hx; omega)
      rw [HL.out] at this
      exact this)
    have SAM := Lib.hid (show ∀ A A' c c' w, Subs w w.heap.size A F → Subs w w.heap.size A' F → Calls Tryd.prog 18 #[.slice A L c, .slice A' L c'] w fun e w' => e = .returned (.bool true) ∧ Below w.heap.size w w' from fun A A' c c' w hs hs' => by
      have := r7samesubs_any A A' c c' F F w hs hs' (by rw [HL.out]; omega) (fun x hx => by have := HSG.out x hx; omega)
      rw [HL.out, decide_eq_true (rfl : F = F)] at this
      exact this)
    have HS := Lib.hid hS
    clear hS hF2 hj hs hje hjl hjp hJ hP
    go_wp2_with fail
    refine (JN.out).mono ?_
    rintro e w4 ⟨A4, k4, B4, d4, rfl, hv4, hp4, hd4, h4⟩
    have HS4 := Lib.hid (HS.out.calls h4)
    replace hb := hb.trans (h4.mono hb.size)
    have HV4 := Lib.hid hv4
    have HP4 := Lib.hid hp4
    have HD4 := Lib.hid hd4
    clear hv4 hp4 h4 hd4
    go_wp2_with fail
    refine (SP2.out _ _ _ _ _ HV4.out HP4.out ⟨HTB.out _ hb, HD4.out⟩).mono ?_
    rintro e w5 ⟨A5, k5, rfl, hs5, h5⟩
    have HS5 := Lib.hid (HS4.out.calls h5)
    have HM5 := Lib.hid hs5
    replace hb := hb.trans (h5.mono hb.size)
    clear hs5 h5
    go_wp2_with fail
    refine (SBS.out _ _ _ HS5.out).mono ?_
    rintro e w6 ⟨A6, k6, rfl, hs6, h6⟩
    have HM6 := Lib.hid (HM5.out.calls h6)
    have HN6 := Lib.hid hs6
    replace hb := hb.trans (h6.mono hb.size)
    clear hs6 h6
    go_wp2_with fail
    refine (SBS.out _ _ _ HM6.out).mono ?_
    rintro e w7 ⟨A7, k7, rfl, hs7, h7⟩
    have HN7 := Lib.hid (HN6.out.calls h7)
    have HM7 := Lib.hid hs7
    replace hb := hb.trans (h7.mono hb.size)
    clear hs7 h7
    go_wp2_with fail
    refine (SAM.out _ _ _ _ _ HN7.out HM7.out).mono ?_
    rintro e w8 ⟨rfl, h8⟩
    replace hb := hb.trans (h8.mono hb.size)
    go_wp2
    go_ret
    exact ⟨rfl, hb⟩
  · have hF2 : F = [] := by rw [← HF.out]; exact splitE_bad (by rw [HK.out]; exact hk0)
    have hL0 : L = 0 := by rw [← HL.out, hF2]; rfl
    subst hL0
    have q4 : (k == 0) = false := by simpa using hk0
    have q5 : (k != 0) = true := by simpa using hk0
    clear hF2 hS
    go_wp2
    go_ret
    exact ⟨rfl, hb⟩
theorem walk_PathBack (A B : Option Addr) (cv cp : Nat) (vs : List Int) (ps : List Pnt) (w : World) (hin : PathIn w A B cv cp vs ps) :
    Calls Tryd.prog 5 #[PathA A vs.length cv B ps.length cp] w fun e w' => e = .returned (.bool true) ∧ Below w.heap.size w w' := by
  cases hb : bnd7 vs.length ps.length
  · exact back_far A B cv cp vs ps w hin hb
  · rcases Nat.lt_or_ge 250 vs.length with h | h
    · exact back_long A B cv cp vs ps w hin hb h
    · exact back_main A B cv cp vs ps w hin hb h
end Go.Proofs.YtalgmnnimfenpaaDoor
