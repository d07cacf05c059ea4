/- The walk of ScriptTells: what is printed, and parsed, of any path, and of any text. -/
import Derived.Test.YtjjklchfcklahaaDoorShown8
import Derived.Test.YtjjklchfcklahaaDoorPathIn
import Derived.Test.YtjjklchfcklahaaDoorRef7D
namespace Go.Proofs.YtjjklchfcklahaaDoor
open Go.RowKit
set_option linter.unusedVariables false
set_option linter.unusedSimpArgs false
set_option maxHeartbeats 4000000
set_option maxRecDepth 100000

theorem walk_ScriptTells (A B : Option Addr) (cv cp : Nat) (vs : List Int) (ps : List Pnt) (s : ByteArray) (w : World) (hT : Tabs8 w) (hin : PathIn w A B cv cp vs ps) (hs : s.size < 9223372036854775808) :
    Calls Tryd.prog 3 #[PathA A vs.length cv B ps.length cp, .string s] w fun e w' => e = .returned (.bool true) ∧ Below w.heap.size w w' := by
  have HTB := Lib.hid (fun (x : World) (hb : Below w.heap.size w x) => hT.step hb)
  clear hT
  obtain ⟨n, hn⟩ : ∃ n, vs.length = n := ⟨_, rfl⟩
  obtain ⟨m, hm⟩ : ∃ m, ps.length = m := ⟨_, rfl⟩
  have HN := Lib.hid hn
  have HM := Lib.hid hm
  have HIN := Lib.hid hin
  rw [hn, hm]
  clear hn hm hin
  by_cases h1 : 520 < n
  · have qa : decide ((520 : Int) < (n : Int)) = true := by simp; omega
    have qb : decide (520 < n) = true := by simp; omega
    go_enter Tryd.func3, Tryd.ntmps3
    go_wp2_with fail
    refine (shown8_any _ (HTB.out _ (by first | exact hb | exact hb8 | exact hb7 | exact hb6 | exact hbc | exact hbW | exact h6 | exact Below.refl _ _ | exact (Below.refl _ _).alloc (Nat.le_refl _) _ | exact hb7.alloc hb7.size _ | exact hb6.alloc hb6.size _ | exact hb2.trans (hbW.mono hb2.size) | exact hb.alloc hb.size _ | exact hb2.trans (h6.mono hb2.size)))).mono ?_
    rintro e w2 ⟨rfl, h2⟩
    go_wp2
    go_ret
    exact ⟨rfl, ((Below.refl _ w).alloc (Nat.le_refl _) _).trans (h2.mono (by simp))⟩
  · have qa : decide ((520 : Int) < (n : Int)) = false := by simp; omega
    have qb : decide (520 < n) = false := by simp; omega
    by_cases h2 : 1600 < m
    · have ra : decide ((1600 : Int) < (m : Int)) = true := by simp; omega
      have rb : decide (1600 < m) = true := by simp; omega
      go_enter Tryd.func3, Tryd.ntmps3
      go_wp2_with fail
      refine (shown8_any _ (HTB.out _ (by first | exact hb | exact hb8 | exact hb7 | exact hb6 | exact hbc | exact hbW | exact h6 | exact Below.refl _ _ | exact (Below.refl _ _).alloc (Nat.le_refl _) _ | exact hb7.alloc hb7.size _ | exact hb6.alloc hb6.size _ | exact hb2.trans (hbW.mono hb2.size) | exact hb.alloc hb.size _ | exact hb2.trans (h6.mono hb2.size)))).mono ?_
      rintro e w2 ⟨rfl, h2⟩
      go_wp2
      go_ret
      exact ⟨rfl, ((Below.refl _ w).alloc (Nat.le_refl _) _).trans (h2.mono (by simp))⟩
    · have ra : decide ((1600 : Int) < (m : Int)) = false := by simp; omega
      have rb : decide (1600 < m) = false := by simp; omega
      by_cases h3 : 600 < s.size
      · have ta : decide ((600 : Int) < (s.size : Int)) = true := by simp; omega
        have tb : decide (600 < s.size) = true := by simp; omega
        go_enter Tryd.func3, Tryd.ntmps3
        go_wp2_with fail
        refine (shown8_any _ (HTB.out _ (by first | exact hb | exact hb8 | exact hb7 | exact hb6 | exact hbc | exact hbW | exact h6 | exact Below.refl _ _ | exact (Below.refl _ _).alloc (Nat.le_refl _) _ | exact hb7.alloc hb7.size _ | exact hb6.alloc hb6.size _ | exact hb2.trans (hbW.mono hb2.size) | exact hb.alloc hb.size _ | exact hb2.trans (h6.mono hb2.size)))).mono ?_
        rintro e w2 ⟨rfl, h2⟩
        go_wp2
        go_ret
        exact ⟨rfl, ((Below.refl _ w).alloc (Nat.le_refl _) _).trans (h2.mono (by simp))⟩
      · have ta : decide ((600 : Int) < (s.size : Int)) = false := by simp; omega
        have tb : decide (600 < s.size) = false := by simp; omega
        obtain ⟨l, hl⟩ : ∃ l, s.data.toList = l := ⟨_, rfl⟩
        have hll : l.length ≤ 600 := by rw [← hl, size_list]; omega
        obtain ⟨z, hz⟩ : ∃ z, parseR l = z := ⟨_, rfl⟩
        obtain ⟨⟨zv, zp⟩, zi, ze⟩ := z
        obtain ⟨E, hE⟩ : ∃ E, pathE vs ps = E := ⟨_, rfl⟩
        obtain ⟨t, ht⟩ : ∃ t : ByteArray, t = ⟨(printE vs ps).toArray⟩ := ⟨_, rfl⟩
        have PA := Lib.hid (show ∀ w, PathIn w A B cv cp vs ps → Tabs8 w → Calls Tryd.prog 9 #[PathA A n cv B m cp] w fun e w' => e = .returned (.tuple #[.string t, .int .i64 E]) ∧ Below w.heap.size w w' from fun w hi hT => by
          have := sprint_any A B cv cp vs ps w hT hi.rv hi.rp (by rw [HN.out]; omega) (by rw [HM.out]; omega) hi.lp
          rw [HN.out, HM.out, hE, show S (printE vs ps) = .string t by rw [ht]; rfl] at this
          exact this)
        have RA := Lib.hid (show ∀ w, PathIn w A B cv cp vs ps → Calls Tryd.prog 10 #[PathA A n cv B m cp] w fun e w' => e = .returned (.tuple #[.string t, .int .i64 E]) ∧ Below w.heap.size w w' from fun w hi => by
          have := r8print_any A B cv cp vs ps w hi.rv hi.rp (by rw [HN.out]; omega) (by rw [HM.out]; omega)
          rw [HN.out, HM.out, hE, show S (printE vs ps) = .string t by rw [ht]; rfl] at this
          exact this)
        obtain ⟨a, ha⟩ : ∃ a, zv.length = a := ⟨_, rfl⟩
        obtain ⟨b, hb⟩ : ∃ b, zp.length = b := ⟨_, rfl⟩
        have hab : a ≤ 2000 ∧ b ≤ 2000 := by
          have := parse_lens hz
          omega
        have PP := Lib.hid (show ∀ w, Tabs8 w → Calls Tryd.prog 12 #[.string s] w fun e w' => ∃ A B c d, e = .returned (.tuple #[PathA A a c B b d, .int .i64 (zi : Nat), .int .i64 ze]) ∧ Vals w' w'.heap.size A (zv.map iV) ∧ Cor w' w'.heap.size B zp ∧ b ≤ d ∧ Below w.heap.size w w' from fun w hT => by
          have := sparse_any s l w hT hl (by omega)
          rw [hz] at this
          unfold Parsed at this
          dsimp only at this
          rw [ha, hb] at this
          exact this)
        have RP := Lib.hid (show ∀ w, Calls Tryd.prog 13 #[.string s] w fun e w' => ∃ A B c d, e = .returned (.tuple #[PathA A a c B b d, .int .i64 (zi : Nat), .int .i64 ze]) ∧ Vals w' w'.heap.size A (zv.map iV) ∧ Cor w' w'.heap.size B zp ∧ b ≤ d ∧ Below w.heap.size w w' from fun w => by
          have := r8parse_any s l w hl (by omega)
          rw [hz] at this
          unfold Parsed at this
          dsimp only at this
          rw [ha, hb] at this
          exact this)
        have SM := Lib.hid (show ∀ A B A' B' c d c' d' w, Vals w w.heap.size A (zv.map iV) → Cor w w.heap.size B zp → Vals w w.heap.size A' (zv.map iV) → Cor w w.heap.size B' zp → Calls Tryd.prog 14 #[PathA A a c B b d, PathA A' a c' B' b d'] w fun e w' => e = .returned (.bool true) ∧ Below w.heap.size w w' from fun A B A' B' c d c' d' w g1 g2 g3 g4 => by
          have := r7same_any A B A' B' c d c' d' zv zv zp zp w g1 g2 g3 g4 (by omega) (by omega)
          rw [ha, hb, decide_eq_true (show zv = zv ∧ zp = zp from ⟨rfl, rfl⟩)] at this
          exact this)
        clear ha hb hz hl hE ht
        go_enter Tryd.func3, Tryd.ntmps3
        go_wp2_with fail
        refine (shown8_any _ (HTB.out _ (by first | exact hb | exact hb8 | exact hb7 | exact hb6 | exact hbc | exact hbW | exact h6 | exact Below.refl _ _ | exact (Below.refl _ _).alloc (Nat.le_refl _) _ | exact hb7.alloc hb7.size _ | exact hb6.alloc hb6.size _ | exact hb2.trans (hbW.mono hb2.size) | exact hb.alloc hb.size _ | exact hb2.trans (h6.mono hb2.size)))).mono ?_
        rintro e w2 ⟨rfl, h2⟩
        have z2 := h2.size
        simp at z2
        have c1 : w2.cell? ⟨w.heap.size, 0, none⟩ = some (.slice A n cv) := (h2.cell (p := ⟨w.heap.size, 0, none⟩) (by simp)).trans (by first | simp | simp [go_sem])
        have c2 : w2.cell? ⟨w.heap.size, 1, none⟩ = some (.slice B m cp) := (h2.cell (p := ⟨w.heap.size, 1, none⟩) (by simp)).trans (by first | simp | simp [go_sem])
        have hb := ((Below.refl _ w).alloc (Nat.le_refl _) _).trans (h2.mono (by simp))
        have hk : w.heap.size < w2.heap.size := by omega
        clear h2 z2
        go_wp2_with fail
        refine (PA.out _ (HIN.out.calls hb) (HTB.out _ (by first | exact hb | exact hb8 | exact hb7 | exact hb6 | exact hbc | exact hbW | exact h6 | exact Below.refl _ _ | exact (Below.refl _ _).alloc (Nat.le_refl _) _ | exact hb7.alloc hb7.size _ | exact hb6.alloc hb6.size _ | exact hb2.trans (hbW.mono hb2.size) | exact hb.alloc hb.size _ | exact hb2.trans (h6.mono hb2.size)))).mono ?_
        rintro e w3 ⟨rfl, h3⟩
        replace c1 := (h3.cell (p := ⟨w.heap.size, 0, none⟩) (by dsimp only; omega)).trans c1
        replace c2 := (h3.cell (p := ⟨w.heap.size, 1, none⟩) (by dsimp only; omega)).trans c2
        replace hb := hb.trans (h3.mono hb.size)
        replace hk := Nat.lt_of_lt_of_le hk h3.size
        clear h3
        go_wp2_with fail
        refine (its8_any A B n cv m cp _).mono ?_
        rintro e w4 ⟨rfl, h4⟩
        replace c1 := (h4.cell (p := ⟨w.heap.size, 0, none⟩) (by dsimp only; omega)).trans c1
        replace c2 := (h4.cell (p := ⟨w.heap.size, 1, none⟩) (by dsimp only; omega)).trans c2
        replace hb := hb.trans (h4.mono hb.size)
        replace hk := Nat.lt_of_lt_of_le hk h4.size
        clear h4
        go_wp2_with fail
        refine (RA.out _ (HIN.out.calls hb)).mono ?_
        rintro e w5 ⟨rfl, h5⟩
        replace c1 := (h5.cell (p := ⟨w.heap.size, 0, none⟩) (by dsimp only; omega)).trans c1
        replace c2 := (h5.cell (p := ⟨w.heap.size, 1, none⟩) (by dsimp only; omega)).trans c2
        replace hb := hb.trans (h5.mono hb.size)
        replace hk := Nat.lt_of_lt_of_le hk h5.size
        clear h5
        go_wp2_with fail
        refine (PP.out _ (HTB.out _ (by first | exact hb | exact hb8 | exact hb7 | exact hb6 | exact hbc | exact hbW | exact h6 | exact Below.refl _ _ | exact (Below.refl _ _).alloc (Nat.le_refl _) _ | exact hb7.alloc hb7.size _ | exact hb6.alloc hb6.size _ | exact hb2.trans (hbW.mono hb2.size) | exact hb.alloc hb.size _ | exact hb2.trans (h6.mono hb2.size)))).mono ?_
        rintro e w6 ⟨A6, B6, c6, d6, rfl, hV6, hC6, -, h6⟩
        have hb6 := hb.trans (h6.mono hb.size)
        clear h6 c1 c2
        go_wp2_with fail
        refine (RP.out _).mono ?_
        rintro e w7 ⟨A7, B7, c7, d7, rfl, hV7, hC7, -, h7⟩
        go_upto_region 7 with fail
        have z7 := h7.size
        simp at z7
        have hs6 := hb6.size
        have HB1 := Lib.hid (show Below w6.heap.size w6 w7 from ((Below.refl _ _).alloc (Nat.le_refl _) _).trans (h7.mono (by simp)))
        have m0 : w7.cell? ⟨w6.heap.size, 0, none⟩ = some (.slice A6 a c6) := (h7.cell (p := ⟨w6.heap.size, 0, none⟩) (by simp)).trans (by first | simp | simp [go_sem])
        have m1 : w7.cell? ⟨w6.heap.size, 1, none⟩ = some (.slice B6 b d6) := (h7.cell (p := ⟨w6.heap.size, 1, none⟩) (by simp)).trans (by first | simp | simp [go_sem])
        have BA : ∀ o, Below w7.heap.size w7 (w7.alloc o) := fun o => (Below.refl _ _).alloc (Nat.le_refl _) o
        refine any_gen (fun z => ((z.cell? ⟨w6.heap.size, 0, none⟩ = some (.slice A6 a c6) ∧ z.cell? ⟨w6.heap.size, 1, none⟩ = some (.slice B6 b d6)) ∧ (z.cell? ⟨w7.heap.size, 0, none⟩ = some (.slice A7 a c7) ∧ z.cell? ⟨w7.heap.size, 1, none⟩ = some (.slice B7 b d7))) ∧ (Vals z z.heap.size A6 (zv.map iV) ∧ Cor z z.heap.size B6 zp ∧ Vals z z.heap.size A7 (zv.map iV) ∧ Cor z z.heap.size B7 zp) ∧ (w6.heap.size < z.heap.size ∧ w7.heap.size < z.heap.size) ∧ Below w.heap.size w z)
          ⟨⟨⟨((BA _).cell (p := ⟨w6.heap.size, 0, none⟩) (by dsimp only; omega)).trans m0, ((BA _).cell (p := ⟨w6.heap.size, 1, none⟩) (by dsimp only; omega)).trans m1⟩, by first | simp | simp [go_sem], by first | simp | simp [go_sem]⟩, ⟨(hV6.calls HB1.out).calls (BA _), (hC6.calls HB1.out).calls (BA _), hV7.calls (BA _), hC7.calls (BA _)⟩, ⟨by simp; omega, by simp⟩, (hb6.trans (HB1.out.mono hs6)).alloc (by omega) _⟩ ?_
        clear hV6 hC6 hV7 hC7 h7 HB1 m0 m1 BA hb hb6 hk
        rintro w8 ⟨⟨⟨k0, k1⟩, k2, k3⟩, ⟨hV6, hC6, hV7, hC7⟩, ⟨s6, s7⟩, hb8⟩
        have HV6 := Lib.hid hV6
        have HC6 := Lib.hid hC6
        have HV7 := Lib.hid hV7
        have HC7 := Lib.hid hC7
        clear hV6 hC6 hV7 hC7
        obtain ⟨g6, hg6⟩ : ∃ g, w6.heap.size = g := ⟨_, rfl⟩
        obtain ⟨g7, hg7⟩ : ∃ g, w7.heap.size = g := ⟨_, rfl⟩
        rw [hg6] at k0 k1 s6 ⊢
        rw [hg7] at k2 k3 s7 ⊢
        clear hg6 hg7 z7 hs6
        have p1 : (t.toList == t.toList) = true := by simp
        have p2 : (E == E) = true := by simp
        have p3 : ((zi : Int) == (zi : Int)) = true := by simp
        have p4 : (ze == ze) = true := by simp
        go_region_held3 (fun w' => w'.cell? ⟨g6, 0, none⟩ = some (.slice A6 a c6) ∧ w'.cell? ⟨g6, 1, none⟩ = some (.slice B6 b d6) ∧ w'.cell? ⟨g7, 0, none⟩ = some (.slice A7 a c7) ∧ w'.cell? ⟨g7, 1, none⟩ = some (.slice B7 b d7) ∧ Below w8.heap.size w8 w') ((first | assumption | exact ⟨by simp [*], by simp [*], by simp [*], by simp [*], (Below.refl _ _).drew⟩ | exact keep4 ‹_› hb (by (try dsimp only); omega) (by (try dsimp only); omega) (by (try dsimp only); omega) (by (try dsimp only); omega) | exact keepA4 ‹_› _ (by (try dsimp only); omega) (by (try dsimp only); omega) (by (try dsimp only); omega) (by (try dsimp only); omega))) ((first | (go_at_call 11; (with_reducible refine (its8_any A6 B6 a c6 b d6 _).mono ?_); rintro e w' ⟨rfl, hb⟩) | (go_at_call 14; (with_reducible refine (SM.out A6 B6 A7 B7 c6 d6 c7 d7 _ (HV6.out.calls (by exact belK4 (by assumption))) (HC6.out.calls (by exact belK4 (by assumption))) (HV7.out.calls (by exact belK4 (by assumption))) (HC7.out.calls (by exact belK4 (by assumption)))).mono ?_); rintro e w' ⟨rfl, hb⟩)))
        all_goals
          have hF := belK4 ‹_ ∧ _ ∧ _ ∧ _ ∧ Below w8.heap.size w8 _›
          go_wp2
          go_ret
          exact ⟨rfl, hb8.trans (hF.mono hb8.size)⟩
end Go.Proofs.YtjjklchfcklahaaDoor
