/- The walk of ScriptBack: what is printed is parsed back; what is parsed may be printed, and parsed again. -/
import Derived.Test.YtjjklchfcklahaaDoorShown8
import Derived.Test.YtjjklchfcklahaaDoorPathIn
import Derived.Test.YtjjklchfcklahaaDoorRef7D
namespace Go.Proofs.YtjjklchfcklahaaDoor
open Go.RowKit
set_option linter.unusedVariables false
set_option linter.unusedSimpArgs false
set_option maxHeartbeats 4000000
set_option maxRecDepth 100000

theorem printE_len {vs : List Int} {ps : List Pnt} (hl : vs.length ≤ 2000) (hp : ps.length ≤ 1536) : (printE vs ps).length ≤ 100000 := by
  unfold printE
  split
  · have h1 := prS_le vs ps (fun p hp => by
      have := far_of_path ‹_› p hp
      exact ⟨by have := this.1; omega, by have := this.2; omega⟩)
    unfold printT; rw [List.length_tail]; omega
  · simp

theorem walk_ScriptBack (A B : Option Addr) (cv cp : Nat) (vs : List Int) (ps : List Pnt) (s : ByteArray) (w : World) (hT : Tabs8 w) (hin : PathIn w A B cv cp vs ps) (hs : s.size < 9223372036854775808) :
    Calls Tryd.prog 4 #[PathA A vs.length cv B ps.length cp, .string s] w fun e w' => e = .returned (.bool true) ∧ Below w.heap.size w w' := by
  have HTB := Lib.hid (fun (x : World) (hb : Below w.heap.size w x) => hT.step hb)
  clear hT
  obtain ⟨n, hn⟩ : ∃ n, vs.length = n := ⟨_, rfl⟩
  obtain ⟨m, hm⟩ : ∃ m, ps.length = m := ⟨_, rfl⟩
  have HN := Lib.hid hn
  have HM := Lib.hid hm
  have HIN := Lib.hid hin
  rw [hn, hm]
  clear hn hm hin
  by_cases h1 : 100 < n
  · have qa : decide ((100 : Int) < (n : Int)) = true := by simp; omega
    have qb : decide (100 < n) = true := by simp; omega
    go_enter Tryd.func4, Tryd.ntmps4
    go_wp2_with fail
    refine (shown8_any _ (HTB.out _ (by first | exact hb | exact hb8 | exact hb7 | exact hb6 | exact hbc | exact hbW | exact h6 | exact Below.refl _ _ | exact (Below.refl _ _).alloc (Nat.le_refl _) _ | exact hb7.alloc hb7.size _ | exact hb6.alloc hb6.size _ | exact hb2.trans (hbW.mono hb2.size) | exact hb.alloc hb.size _ | exact hb2.trans (h6.mono hb2.size)))).mono ?_
    rintro e w2 ⟨rfl, h2⟩
    go_wp2
    go_ret
    exact ⟨rfl, ((Below.refl _ w).alloc (Nat.le_refl _) _).trans (h2.mono (by simp))⟩
  · have qa : decide ((100 : Int) < (n : Int)) = false := by simp; omega
    have qb : decide (100 < n) = false := by simp; omega
    by_cases h2 : 400 < m
    · have ra : decide ((400 : Int) < (m : Int)) = true := by simp; omega
      have rb : decide (400 < m) = true := by simp; omega
      go_enter Tryd.func4, Tryd.ntmps4
      go_wp2_with fail
      refine (shown8_any _ (HTB.out _ (by first | exact hb | exact hb8 | exact hb7 | exact hb6 | exact hbc | exact hbW | exact h6 | exact Below.refl _ _ | exact (Below.refl _ _).alloc (Nat.le_refl _) _ | exact hb7.alloc hb7.size _ | exact hb6.alloc hb6.size _ | exact hb2.trans (hbW.mono hb2.size) | exact hb.alloc hb.size _ | exact hb2.trans (h6.mono hb2.size)))).mono ?_
      rintro e w2 ⟨rfl, h2⟩
      go_wp2
      go_ret
      exact ⟨rfl, ((Below.refl _ w).alloc (Nat.le_refl _) _).trans (h2.mono (by simp))⟩
    · have ra : decide ((400 : Int) < (m : Int)) = false := by simp; omega
      have rb : decide (400 < m) = false := by simp; omega
      by_cases h3 : 600 < s.size
      · have ta : decide ((600 : Int) < (s.size : Int)) = true := by simp; omega
        have tb : decide (600 < s.size) = true := by simp; omega
        go_enter Tryd.func4, Tryd.ntmps4
        go_wp2_with fail
        refine (shown8_any _ (HTB.out _ (by first | exact hb | exact hb8 | exact hb7 | exact hb6 | exact hbc | exact hbW | exact h6 | exact Below.refl _ _ | exact (Below.refl _ _).alloc (Nat.le_refl _) _ | exact hb7.alloc hb7.size _ | exact hb6.alloc hb6.size _ | exact hb2.trans (hbW.mono hb2.size) | exact hb.alloc hb.size _ | exact hb2.trans (h6.mono hb2.size)))).mono ?_
        rintro e w2 ⟨rfl, h2⟩
        go_wp2
        go_ret
        exact ⟨rfl, ((Below.refl _ w).alloc (Nat.le_refl _) _).trans (h2.mono (by simp))⟩
      · have ta : decide ((600 : Int) < (s.size : Int)) = false := by simp; omega
        have tb : decide (600 < s.size) = false := by simp; omega
        obtain ⟨l, hl⟩ : ∃ l, s.data.toList = l := ⟨_, rfl⟩
        have hll : l.length ≤ 600 := by rw [← hl, size_list]; omega
        obtain ⟨z, hz⟩ : ∃ z, parseR l = z := ⟨_, rfl⟩
        obtain ⟨⟨zv, zp⟩, zi, ze⟩ := z
        obtain ⟨E, hE⟩ : ∃ E, pathE vs ps = E := ⟨_, rfl⟩
        obtain ⟨t, ht⟩ : ∃ t : ByteArray, t = ⟨(printE vs ps).toArray⟩ := ⟨_, rfl⟩
        have PA := Lib.hid (show ∀ w, PathIn w A B cv cp vs ps → Tabs8 w → Calls Tryd.prog 9 #[PathA A n cv B m cp] w fun e w' => e = .returned (.tuple #[.string t, .int .i64 E]) ∧ Below w.heap.size w w' from fun w hi hT => by
          have := sprint_any A B cv cp vs ps w hT hi.rv hi.rp (by rw [HN.out]; omega) (by rw [HM.out]; omega) hi.lp
          rw [HN.out, HM.out, hE, show S (printE vs ps) = .string t by rw [ht]; rfl] at this
          exact this)
        have hpl := printE_len (vs := vs) (ps := ps) (by rw [HN.out]; omega) (by rw [HM.out]; omega)
        have PT := Lib.hid (show E = 0 → ∀ w, Tabs8 w → Calls Tryd.prog 12 #[.string t] w fun e w' => ∃ A B c d, e = .returned (.tuple #[PathA A n c B m d, .int .i64 0, .int .i64 0]) ∧ Vals w' w'.heap.size A (vs.map iV) ∧ Cor w' w'.heap.size B ps ∧ m ≤ d ∧ Below w.heap.size w w' from fun h0 w hT => by
          have := sparse_any t (printE vs ps) w hT (by rw [ht]) (Nat.le_trans hpl (by decide))
          rw [show printE vs ps = printT vs ps by unfold printE; rw [if_pos (hE.trans h0)], parse_printT (hE.trans h0)] at this
          unfold Parsed at this
          dsimp only at this
          rw [HN.out, HM.out] at this
          exact this)
        obtain ⟨a, ha⟩ : ∃ a, zv.length = a := ⟨_, rfl⟩
        obtain ⟨b, hb⟩ : ∃ b, zp.length = b := ⟨_, rfl⟩
        have hab : a ≤ 512 ∧ b ≤ 1536 := by
          have := parse_lens hz
          omega
        have PP := Lib.hid (show ∀ w, Tabs8 w → Calls Tryd.prog 12 #[.string s] w fun e w' => ∃ A B c d, e = .returned (.tuple #[PathA A a c B b d, .int .i64 (zi : Nat), .int .i64 ze]) ∧ Vals w' w'.heap.size A (zv.map iV) ∧ Cor w' w'.heap.size B zp ∧ b ≤ d ∧ Below w.heap.size w w' from fun w hT => by
          have := sparse_any s l w hT hl (by omega)
          rw [hz] at this
          unfold Parsed at this
          dsimp only at this
          rw [ha, hb] at this
          exact this)
        have BAD := Lib.hid (show ze ≠ 0 → a = 0 ∧ b = 0 ∧ zi ≤ s.size from fun h0 => by
          obtain ⟨g1, g2, g3⟩ := parse_bad hz h0
          rw [g1] at ha
          rw [g2] at hb
          exact ⟨ha.symm, hb.symm, by rw [← size_list, hl]; exact g3⟩)
        obtain ⟨u, hu⟩ : ∃ u : ByteArray, u = ⟨(printE zv zp).toArray⟩ := ⟨_, rfl⟩
        have PU := Lib.hid (show ze = 0 → ∀ A B c d w, Vals w w.heap.size A (zv.map iV) → Cor w w.heap.size B zp → b ≤ d → Tabs8 w → Calls Tryd.prog 9 #[PathA A a c B b d] w fun e w' => e = .returned (.tuple #[.string u, .int .i64 0]) ∧ Below w.heap.size w w' from fun h0 A B c d w g1 g2 g3 hT => by
          have hg := parse_good (h0 ▸ hz)
          have := sprint_any A B c d zv zp w hT g1 g2 (by rw [ha]; omega) (by rw [hb]; omega) (by rw [hb]; exact g3)
          rw [ha, hb, hg, show S (printE zv zp) = .string u by rw [hu]; rfl] at this
          exact this)
        have PV := Lib.hid (show ze = 0 → ∀ w, Tabs8 w → Calls Tryd.prog 12 #[.string u] w fun e w' => ∃ A B c d, e = .returned (.tuple #[PathA A a c B b d, .int .i64 0, .int .i64 0]) ∧ Vals w' w'.heap.size A (zv.map iV) ∧ Cor w' w'.heap.size B zp ∧ b ≤ d ∧ Below w.heap.size w w' from fun h0 w hT => by
          have hg := parse_good (h0 ▸ hz)
          have := sparse_any u (printE zv zp) w hT (by rw [hu]) (Nat.le_trans (printE_len (by rw [ha]; omega) (by rw [hb]; omega)) (by decide))
          rw [show printE zv zp = printT zv zp by unfold printE; rw [if_pos hg], parse_printT hg] at this
          unfold Parsed at this
          dsimp only at this
          rw [ha, hb] at this
          exact this)
        have SP := Lib.hid (show ∀ A B A' B' c d c' d' w, Vals w w.heap.size A (vs.map iV) → Cor w w.heap.size B ps → Vals w w.heap.size A' (vs.map iV) → Cor w w.heap.size B' ps → Calls Tryd.prog 14 #[PathA A n c B m d, PathA A' n c' B' m d'] w fun e w' => e = .returned (.bool true) ∧ Below w.heap.size w w' from fun A B A' B' c d c' d' w g1 g2 g3 g4 => by
          have := r7same_any A B A' B' c d c' d' vs vs ps ps w g1 g2 g3 g4 (by rw [HN.out]; omega) (by rw [HM.out]; omega)
          rw [HN.out, HM.out, decide_eq_true (show vs = vs ∧ ps = ps from ⟨rfl, rfl⟩)] at this
          exact this)
        have SM := Lib.hid (show ∀ A B A' B' c d c' d' w, Vals w w.heap.size A (zv.map iV) → Cor w w.heap.size B zp → Vals w w.heap.size A' (zv.map iV) → Cor w w.heap.size B' zp → Calls Tryd.prog 14 #[PathA A a c B b d, PathA A' a c' B' b d'] w fun e w' => e = .returned (.bool true) ∧ Below w.heap.size w w' from fun A B A' B' c d c' d' w g1 g2 g3 g4 => by
          have := r7same_any A B A' B' c d c' d' zv zv zp zp w g1 g2 g3 g4 (by omega) (by omega)
          rw [ha, hb, decide_eq_true (show zv = zv ∧ zp = zp from ⟨rfl, rfl⟩)] at this
          exact this)
        clear ha hb hz hl hE ht hu hpl
        go_enter Tryd.func4, Tryd.ntmps4
        go_wp2_with fail
        refine (shown8_any _ (HTB.out _ (by first | exact hb | exact hb8 | exact hb7 | exact hb6 | exact hbc | exact hbW | exact h6 | exact Below.refl _ _ | exact (Below.refl _ _).alloc (Nat.le_refl _) _ | exact hb7.alloc hb7.size _ | exact hb6.alloc hb6.size _ | exact hb2.trans (hbW.mono hb2.size) | exact hb.alloc hb.size _ | exact hb2.trans (h6.mono hb2.size)))).mono ?_
        rintro e w2 ⟨rfl, h2⟩
        have z2 := h2.size
        simp at z2
        have c1 : w2.cell? ⟨w.heap.size, 0, none⟩ = some (.slice A n cv) := (h2.cell (p := ⟨w.heap.size, 0, none⟩) (by simp)).trans (by first | simp | simp [go_sem])
        have c2 : w2.cell? ⟨w.heap.size, 1, none⟩ = some (.slice B m cp) := (h2.cell (p := ⟨w.heap.size, 1, none⟩) (by simp)).trans (by first | simp | simp [go_sem])
        have hb := ((Below.refl _ w).alloc (Nat.le_refl _) _).trans (h2.mono (by simp))
        have hk : w.heap.size < w2.heap.size := by omega
        clear h2 z2
        go_wp2_with fail
        refine (PA.out _ (HIN.out.calls hb) (HTB.out _ (by first | exact hb | exact hb8 | exact hb7 | exact hb6 | exact hbc | exact hbW | exact h6 | exact Below.refl _ _ | exact (Below.refl _ _).alloc (Nat.le_refl _) _ | exact hb7.alloc hb7.size _ | exact hb6.alloc hb6.size _ | exact hb2.trans (hbW.mono hb2.size) | exact hb.alloc hb.size _ | exact hb2.trans (h6.mono hb2.size)))).mono ?_
        rintro e w3 ⟨rfl, h3⟩
        replace c1 := (h3.cell (p := ⟨w.heap.size, 0, none⟩) (by dsimp only; omega)).trans c1
        replace c2 := (h3.cell (p := ⟨w.heap.size, 1, none⟩) (by dsimp only; omega)).trans c2
        replace hb := hb.trans (h3.mono hb.size)
        replace hk := Nat.lt_of_lt_of_le hk h3.size
        clear h3
        go_upto_if 44 with (fail)
        go_cut [5] (fun s5 wx => Below w.heap.size w wx)
        case first =>
          by_cases h0 : E = 0
          · have PT0 := Lib.hid (PT.out h0)
            subst h0
            go_wp2_with fail
            refine (PT0.out _ (HTB.out _ (by first | exact hb | exact hb8 | exact hb7 | exact hb6 | exact hbc | exact hbW | exact h6 | exact Below.refl _ _ | exact (Below.refl _ _).alloc (Nat.le_refl _) _ | exact hb7.alloc hb7.size _ | exact hb6.alloc hb6.size _ | exact hb2.trans (hbW.mono hb2.size) | exact hb.alloc hb.size _ | exact hb2.trans (h6.mono hb2.size)))).mono ?_
            rintro e w6 ⟨A6, B6, c6, d6, rfl, hV6, hC6, -, h6⟩
            go_upto_region 6 with fail
            have z6 := h6.size
            have BA : ∀ o, Below w6.heap.size w6 (w6.alloc o) := fun o => (Below.refl _ _).alloc (Nat.le_refl _) o
            refine any_gen (fun z => ((z.cell? ⟨w.heap.size, 0, none⟩ = some (.slice A n cv) ∧ z.cell? ⟨w.heap.size, 1, none⟩ = some (.slice B m cp)) ∧ (z.cell? ⟨w6.heap.size, 0, none⟩ = some (.slice A6 n c6) ∧ z.cell? ⟨w6.heap.size, 1, none⟩ = some (.slice B6 m d6))) ∧ (Vals z z.heap.size A6 (vs.map iV) ∧ Cor z z.heap.size B6 ps) ∧ (w.heap.size < z.heap.size ∧ w6.heap.size < z.heap.size) ∧ Below w.heap.size w z)
              ⟨⟨⟨(((h6.trans ((BA _).mono z6)).cell (p := ⟨w.heap.size, 0, none⟩) (by dsimp only; omega))).trans c1, (((h6.trans ((BA _).mono z6)).cell (p := ⟨w.heap.size, 1, none⟩) (by dsimp only; omega))).trans c2⟩, by first | simp | simp [go_sem], by first | simp | simp [go_sem]⟩, ⟨hV6.calls (BA _), hC6.calls (BA _)⟩, ⟨by simp; omega, by simp⟩, (hb.trans (h6.mono hb.size)).trans ((BA _).mono (Nat.le_trans hb.size z6))⟩ ?_
            clear hV6 hC6 h6 BA hb hk c1 c2
            rintro w8 ⟨⟨⟨k0, k1⟩, k2, k3⟩, ⟨hV6, hC6⟩, ⟨s6, s7⟩, hb8⟩
            have HV6 := Lib.hid hV6
            have HC6 := Lib.hid hC6
            have HP8 := Lib.hid (HIN.out.calls hb8)
            clear hV6 hC6
            obtain ⟨g7, hg7⟩ : ∃ g, w6.heap.size = g := ⟨_, rfl⟩
            rw [hg7] at k2 k3 s7 ⊢
            clear hg7 z6
            go_region_held3 (fun w' => w'.cell? ⟨w.heap.size, 0, none⟩ = some (.slice A n cv) ∧ w'.cell? ⟨w.heap.size, 1, none⟩ = some (.slice B m cp) ∧ w'.cell? ⟨g7, 0, none⟩ = some (.slice A6 n c6) ∧ w'.cell? ⟨g7, 1, none⟩ = some (.slice B6 m d6) ∧ Below w8.heap.size w8 w') ((first | assumption | exact ⟨by simp [*], by simp [*], by simp [*], by simp [*], (Below.refl _ _).drew⟩ | exact keep4 ‹_› hb (by (try dsimp only); omega) (by (try dsimp only); omega) (by (try dsimp only); omega) (by (try dsimp only); omega) | exact keepA4 ‹_› _ (by (try dsimp only); omega) (by (try dsimp only); omega) (by (try dsimp only); omega) (by (try dsimp only); omega))) ((first | (go_at_call 11; (with_reducible refine (its8_any _ _ _ _ _ _ _).mono ?_); rintro e w' ⟨rfl, hb⟩) | (go_at_call 14; (with_reducible refine (SP.out A B A6 B6 cv cp c6 d6 _ (HP8.out.calls (by exact belK4 (by assumption))).rv (HP8.out.calls (by exact belK4 (by assumption))).rp (HV6.out.calls (by exact belK4 (by assumption))) (HC6.out.calls (by exact belK4 (by assumption)))).mono ?_); rintro e w' ⟨rfl, hb⟩)))
            all_goals
              have hF := belK4 ‹_ ∧ _ ∧ _ ∧ _ ∧ Below w8.heap.size w8 _›
              have hbF := hb8.trans (hF.mono hb8.size)
              go_wp2_with fail
              go_meet
              exact hbF
          · have q1 : (E == 0) = false := by simpa using h0
            have q2 : (E != 0) = true := by simpa using h0
            go_wp2_with fail
            go_meet
            exact hb
        case rest =>
          clear c1 c2 hk
          have hbc := hcut
          clear hcut hb
          go_wp2_with fail
          refine (PP.out _ (HTB.out _ (by first | exact hb | exact hb8 | exact hb7 | exact hb6 | exact hbc | exact hbW | exact h6 | exact Below.refl _ _ | exact (Below.refl _ _).alloc (Nat.le_refl _) _ | exact hb7.alloc hb7.size _ | exact hb6.alloc hb6.size _ | exact hb2.trans (hbW.mono hb2.size) | exact hb.alloc hb.size _ | exact hb2.trans (h6.mono hb2.size)))).mono ?_
          rintro e w6 ⟨A6, B6, c6, d6, rfl, hV6, hC6, hcap6, h6⟩
          have hb6 := hbc.trans (h6.mono hbc.size)
          have BA : ∀ o, Below w6.heap.size w6 (w6.alloc o) := fun o => (Below.refl _ _).alloc (Nat.le_refl _) o
          by_cases h0 : ze = 0
          · have PU0 := Lib.hid (PU.out h0)
            have HCAP := Lib.hid hcap6
            clear hcap6
            have PV0 := Lib.hid (PV.out h0)
            subst h0
            have HV6 := Lib.hid (hV6.calls (BA (.cells #[.slice A6 a c6, .slice B6 b d6] 25)))
            have HC6 := Lib.hid (hC6.calls (BA (.cells #[.slice A6 a c6, .slice B6 b d6] 25)))
            have hb7 := hb6.trans ((BA (.cells #[.slice A6 a c6, .slice B6 b d6] 25)).mono hb6.size)
            clear hV6 hC6 h6 BA hbc
            go_wp2_with fail
            refine (PU0.out A6 B6 c6 d6 _ HV6.out HC6.out HCAP.out (HTB.out _ (by first | exact hb | exact hb8 | exact hb7 | exact hb6 | exact hbc | exact hbW | exact h6 | exact Below.refl _ _ | exact (Below.refl _ _).alloc (Nat.le_refl _) _ | exact hb7.alloc hb7.size _ | exact hb6.alloc hb6.size _ | exact hb2.trans (hbW.mono hb2.size) | exact hb.alloc hb.size _ | exact hb2.trans (h6.mono hb2.size)))).mono ?_
            rintro e w7 ⟨rfl, h7⟩
            have z7 := h7.size
            simp at z7
            have m0 : w7.cell? ⟨w6.heap.size, 0, none⟩ = some (.slice A6 a c6) := (h7.cell (p := ⟨w6.heap.size, 0, none⟩) (by simp)).trans (by first | simp | simp [go_sem])
            have m1 : w7.cell? ⟨w6.heap.size, 1, none⟩ = some (.slice B6 b d6) := (h7.cell (p := ⟨w6.heap.size, 1, none⟩) (by simp)).trans (by first | simp | simp [go_sem])
            have HV7 := Lib.hid (HV6.out.calls h7)
            have HC7 := Lib.hid (HC6.out.calls h7)
            have hb8 := hb7.trans (h7.mono hb7.size)
            have hs6 := hb6.size
            clear h7 hb7 HV6 HC6 hb6
            go_wp2_with fail
            refine (PV0.out _ (HTB.out _ (by first | exact hb | exact hb8 | exact hb7 | exact hb6 | exact hbc | exact hbW | exact h6 | exact Below.refl _ _ | exact (Below.refl _ _).alloc (Nat.le_refl _) _ | exact hb7.alloc hb7.size _ | exact hb6.alloc hb6.size _ | exact hb2.trans (hbW.mono hb2.size) | exact hb.alloc hb.size _ | exact hb2.trans (h6.mono hb2.size)))).mono ?_
            rintro e w9 ⟨A9, B9, c9, d9, rfl, hV9, hC9, -, h9⟩
            go_upto_region 13 with fail
            have z9 := h9.size
            have BA : ∀ o, Below w9.heap.size w9 (w9.alloc o) := fun o => (Below.refl _ _).alloc (Nat.le_refl _) o
            refine any_gen (fun z => ((z.cell? ⟨w6.heap.size, 0, none⟩ = some (.slice A6 a c6) ∧ z.cell? ⟨w6.heap.size, 1, none⟩ = some (.slice B6 b d6)) ∧ (z.cell? ⟨w9.heap.size, 0, none⟩ = some (.slice A9 a c9) ∧ z.cell? ⟨w9.heap.size, 1, none⟩ = some (.slice B9 b d9))) ∧ ((Vals z z.heap.size A6 (zv.map iV) ∧ Cor z z.heap.size B6 zp) ∧ Vals z z.heap.size A9 (zv.map iV) ∧ Cor z z.heap.size B9 zp) ∧ (w6.heap.size < z.heap.size ∧ w9.heap.size < z.heap.size) ∧ Below w.heap.size w z)
              ⟨⟨⟨((h9.trans ((BA _).mono z9)).cell (p := ⟨w6.heap.size, 0, none⟩) (by dsimp only; omega)).trans m0, ((h9.trans ((BA _).mono z9)).cell (p := ⟨w6.heap.size, 1, none⟩) (by dsimp only; omega)).trans m1⟩, by first | simp | simp [go_sem], by first | simp | simp [go_sem]⟩, ⟨⟨(HV7.out.calls h9).calls (BA _), (HC7.out.calls h9).calls (BA _)⟩, hV9.calls (BA _), hC9.calls (BA _)⟩, ⟨by simp; omega, by simp⟩, (hb8.trans (h9.mono hb8.size)).trans ((BA _).mono (Nat.le_trans hb8.size z9))⟩ ?_
            clear hV9 hC9 h9 BA hb8 m0 m1 HV7 HC7
            rintro w10 ⟨⟨⟨k0, k1⟩, k2, k3⟩, ⟨⟨hV6, hC6⟩, hV9, hC9⟩, ⟨s6, s7⟩, hb10⟩
            have HV6 := Lib.hid hV6
            have HC6 := Lib.hid hC6
            have HV9 := Lib.hid hV9
            have HC9 := Lib.hid hC9
            clear hV6 hC6 hV9 hC9
            obtain ⟨g6, hg6⟩ : ∃ g, w6.heap.size = g := ⟨_, rfl⟩
            obtain ⟨g7, hg7⟩ : ∃ g, w9.heap.size = g := ⟨_, rfl⟩
            rw [hg6] at k0 k1 s6 ⊢
            rw [hg7] at k2 k3 s7 ⊢
            clear hg6 hg7 z7 z9 hs6
            go_region_held3 (fun w' => w'.cell? ⟨g6, 0, none⟩ = some (.slice A6 a c6) ∧ w'.cell? ⟨g6, 1, none⟩ = some (.slice B6 b d6) ∧ w'.cell? ⟨g7, 0, none⟩ = some (.slice A9 a c9) ∧ w'.cell? ⟨g7, 1, none⟩ = some (.slice B9 b d9) ∧ Below w10.heap.size w10 w') ((first | assumption | exact ⟨by simp [*], by simp [*], by simp [*], by simp [*], (Below.refl _ _).drew⟩ | exact keep4 ‹_› hb (by (try dsimp only); omega) (by (try dsimp only); omega) (by (try dsimp only); omega) (by (try dsimp only); omega) | exact keepA4 ‹_› _ (by (try dsimp only); omega) (by (try dsimp only); omega) (by (try dsimp only); omega) (by (try dsimp only); omega))) ((first | (go_at_call 11; (with_reducible refine (its8_any _ _ _ _ _ _ _).mono ?_); rintro e w' ⟨rfl, hb⟩) | (go_at_call 14; (with_reducible refine (SM.out A6 B6 A9 B9 c6 d6 c9 d9 _ (HV6.out.calls (by exact belK4 (by assumption))) (HC6.out.calls (by exact belK4 (by assumption))) (HV9.out.calls (by exact belK4 (by assumption))) (HC9.out.calls (by exact belK4 (by assumption)))).mono ?_); rintro e w' ⟨rfl, hb⟩)))
            all_goals
              have hF := belK4 ‹_ ∧ _ ∧ _ ∧ _ ∧ Below w10.heap.size w10 _›
              go_wp2
              go_ret
              exact ⟨rfl, hb10.trans (hF.mono hb10.size)⟩
          · obtain ⟨rfl, rfl, hzi⟩ := BAD.out h0
            have q1 : (ze == 0) = false := by simpa using h0
            have q2 : (ze != 0) = true := by simpa using h0
            have q3 : decide ((zi : Int) ≤ (s.size : Int)) = true := by simp; omega
            have q4 : decide (zi ≤ s.size) = true := by simp; omega
            clear hV6 hC6 h6 h0
            go_wp2
            go_ret
            exact ⟨by simp, hb6.trans ((BA _).mono hb6.size)⟩
end Go.Proofs.YtjjklchfcklahaaDoor
