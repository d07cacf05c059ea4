/- The walk of ScriptPlace: a word that is wrong is told by its place. -/
import Derived.Test.YtjjklchfcklahaaDoorLaw8B
import Derived.Test.YtjjklchfcklahaaDoorScriptPt
namespace Go.Proofs.YtjjklchfcklahaaDoor
open Go.RowKit
set_option linter.unusedVariables false
set_option linter.unusedSimpArgs false
set_option maxHeartbeats 4000000
set_option maxRecDepth 100000

theorem walk_ScriptPlace (A B : Option Addr) (cv cp : Nat) (vs : List Int) (ps : List Pnt) (bad : ByteArray) (y : Int) (hy : 0 ≤ y ∧ y ≤ 255) (w : World) (hT : Tabs8 w) (hin : PathIn w A B cv cp vs ps) :
    Calls Tryd.prog 7 #[PathA A vs.length cv B ps.length cp, .string bad, .int .u8 y] w fun e w' => e = .returned (.bool true) ∧ Below w.heap.size w w' := by
  have HTB := Lib.hid (fun (x : World) (hb : Below w.heap.size w x) => hT.step hb)
  clear hT
  have hnm : vs.length ≤ 9223372036854775807 ∧ ps.length ≤ 9223372036854775807 := ⟨Nat.le_trans hin.lv hin.mv, Nat.le_trans hin.lp hin.mp⟩
  obtain ⟨n, hn⟩ : ∃ n, vs.length = n := ⟨_, rfl⟩
  obtain ⟨m, hm⟩ : ∃ m, ps.length = m := ⟨_, rfl⟩
  rw [hn, hm] at hnm ⊢
  have HN := Lib.hid hn
  have HM := Lib.hid hm
  have HIN := Lib.hid hin
  clear hn hm hin
  obtain ⟨E, hE⟩ : ∃ E, pathE vs ps = E := ⟨_, rfl⟩
  obtain ⟨t, ht⟩ : ∃ t : ByteArray, t = ⟨(printE vs ps).toArray⟩ := ⟨_, rfl⟩
  have PA := Lib.hid (show ∀ w, PathIn w A B cv cp vs ps → Tabs8 w → Calls Tryd.prog 9 #[PathA A n cv B m cp] w fun e w' => e = .returned (.tuple #[.string t, .int .i64 E]) ∧ Below w.heap.size w w' from fun w hi hT => by
    have := sprint_any A B cv cp vs ps w hT hi.rv hi.rp (by rw [HN.out]; omega) (by rw [HM.out]; omega) hi.lp
    rw [HN.out, HM.out, hE, show S (printE vs ps) = .string t by rw [ht]; rfl] at this
    exact this)
  have HT := Lib.hid ht
  have HE := Lib.hid hE
  clear ht hE
  go_enter Tryd.func7, Tryd.ntmps7
  go_wp2_with fail
  refine (PA.out _ (HIN.out.calls ((Below.refl _ w).alloc (Nat.le_refl _) _)) (HTB.out _ ((Below.refl _ w).alloc (Nat.le_refl _) _))).mono ?_
  rintro e w3 ⟨rfl, h3⟩
  have z3 := h3.size
  simp at z3
  have c1 : w3.cell? ⟨w.heap.size, 0, none⟩ = some (.slice A n cv) := (h3.cell (p := ⟨w.heap.size, 0, none⟩) (by simp)).trans (by first | simp | simp [go_sem])
  have c2 : w3.cell? ⟨w.heap.size, 1, none⟩ = some (.slice B m cp) := (h3.cell (p := ⟨w.heap.size, 1, none⟩) (by simp)).trans (by first | simp | simp [go_sem])
  have hb := ((Below.refl _ w).alloc (Nat.le_refl _) _).trans (h3.mono (by simp))
  clear h3 PA HIN
  by_cases h1 : 60 < n
  · have qa : decide ((60 : Int) < (n : Int)) = true := by simp; omega
    have qb : decide (60 < n) = true := by simp; omega
    go_wp2_with fail
    refine (shown8_any _ (HTB.out _ (by first | exact hb | exact below_dN hb _ | exact hb8 | exact hb7 | exact hb6 | exact hbc | exact hbW | exact h6 | exact Below.refl _ _ | exact (Below.refl _ _).alloc (Nat.le_refl _) _ | exact hb7.alloc hb7.size _ | exact hb6.alloc hb6.size _ | exact hb2.trans (hbW.mono hb2.size) | exact hb.alloc hb.size _ | exact hb2.trans (h6.mono hb2.size)))).mono ?_
    rintro e w2 ⟨rfl, h2⟩
    go_wp2
    go_ret
    exact ⟨rfl, hb.trans (h2.mono hb.size)⟩
  have qa : decide ((60 : Int) < (n : Int)) = false := by simp; omega
  have qb : decide (60 < n) = false := by simp; omega
  by_cases h2 : 200 < m
  · have ra : decide ((200 : Int) < (m : Int)) = true := by simp; omega
    have rb : decide (200 < m) = true := by simp; omega
    go_wp2_with fail
    refine (shown8_any _ (HTB.out _ (by first | exact hb | exact below_dN hb _ | exact hb8 | exact hb7 | exact hb6 | exact hbc | exact hbW | exact h6 | exact Below.refl _ _ | exact (Below.refl _ _).alloc (Nat.le_refl _) _ | exact hb7.alloc hb7.size _ | exact hb6.alloc hb6.size _ | exact hb2.trans (hbW.mono hb2.size) | exact hb.alloc hb.size _ | exact hb2.trans (h6.mono hb2.size)))).mono ?_
    rintro e w2 ⟨rfl, h2⟩
    go_wp2
    go_ret
    exact ⟨rfl, hb.trans (h2.mono hb.size)⟩
  have ra : decide ((200 : Int) < (m : Int)) = false := by simp; omega
  have rb : decide (200 < m) = false := by simp; omega
  by_cases h0 : E = 0
  rotate_left
  · have sa : (E == 0) = false := by simpa using h0
    have sb : (E != 0) = true := by simpa using h0
    go_wp2_with fail
    refine (shown8_any _ (HTB.out _ (by first | exact hb | exact below_dN hb _ | exact hb8 | exact hb7 | exact hb6 | exact hbc | exact hbW | exact h6 | exact Below.refl _ _ | exact (Below.refl _ _).alloc (Nat.le_refl _) _ | exact hb7.alloc hb7.size _ | exact hb6.alloc hb6.size _ | exact hb2.trans (hbW.mono hb2.size) | exact hb.alloc hb.size _ | exact hb2.trans (h6.mono hb2.size)))).mono ?_
    rintro e w2 ⟨rfl, h2⟩
    go_wp2
    go_ret
    exact ⟨rfl, hb.trans (h2.mono hb.size)⟩
  subst h0
  have hcase : (¬ bad.data.toList = [120] ∧ ¬ bad.data.toList = [49, 46, 46] ∧ ¬ bad.data.toList = [76, 76]) ∨ ∃ x, (BadW x ∧ bad.data.toList = x ∧ x.length ≤ 3 ∧ parseR (x ++ [32]) = (([], []), 0, 80)) ∧ (bad.data.toList = [120] ∨ (¬ bad.data.toList = [120] ∧ bad.data.toList = [49, 46, 46]) ∨ (¬ bad.data.toList = [120] ∧ ¬ bad.data.toList = [49, 46, 46] ∧ bad.data.toList = [76, 76])) := by
    by_cases k1 : bad.data.toList = [120]
    · exact .inr ⟨[120], ⟨bad_x, k1, by decide, lone_x⟩, .inl k1⟩
    · by_cases k2 : bad.data.toList = [49, 46, 46]
      · exact .inr ⟨[49, 46, 46], ⟨bad_dots, k2, by decide, lone_dots⟩, .inr (.inl ⟨k1, k2⟩)⟩
      · by_cases k3 : bad.data.toList = [76, 76]
        · exact .inr ⟨[76, 76], ⟨bad_two, k3, by decide, lone_two⟩, .inr (.inr ⟨k1, k2, k3⟩)⟩
        · exact .inl ⟨k1, k2, k3⟩
  rcases hcase with ⟨k1, k2, k3⟩ | ⟨x, ⟨hx1, hx2, hx3, hx4⟩, hx5⟩
  · have k1a : (bad.toList == [120]) = false := by rw [ByteArray.toList_eq]; simpa using k1
    have k1b : (bad.toList != [120]) = true := by rw [bne, k1a]; rfl
    have k2a : (bad.toList == [49, 46, 46]) = false := by rw [ByteArray.toList_eq]; simpa using k2
    have k2b : (bad.toList != [49, 46, 46]) = true := by rw [bne, k2a]; rfl
    have k3a : (bad.toList == [76, 76]) = false := by rw [ByteArray.toList_eq]; simpa using k3
    have k3b : (bad.toList != [76, 76]) = true := by rw [bne, k3a]; rfl
    clear k1 k2 k3
    go_wp2_with fail
    refine (shown8_any _ (HTB.out _ (by first | exact hb | exact below_dN hb _ | exact hb8 | exact hb7 | exact hb6 | exact hbc | exact hbW | exact h6 | exact Below.refl _ _ | exact (Below.refl _ _).alloc (Nat.le_refl _) _ | exact hb7.alloc hb7.size _ | exact hb6.alloc hb6.size _ | exact hb2.trans (hbW.mono hb2.size) | exact hb.alloc hb.size _ | exact hb2.trans (h6.mono hb2.size)))).mono ?_
    rintro e w2 ⟨rfl, h2⟩
    go_wp2
    go_ret
    exact ⟨rfl, hb.trans (h2.mono hb.size)⟩
  have HX := Lib.hid hx1
  have HXB := Lib.hid hx2
  have HXL := Lib.hid hx4
  have hbs : bad.size ≤ 3 := by rw [← size_list, hx2]; exact hx3
  clear hx1 hx2 hx3 hx4
  have HW := Lib.hid (show (Wl vs ps).length = n + 2 * m by
    obtain ⟨_, g2, g3, _⟩ := check_ok.1 HE.out
    rw [Wl_len vs ps 5 g2 g3, HN.out, HM.out])
  have HTL := Lib.hid (show t.data.toList = printT vs ps by rw [HT.out]; show printE vs ps = _; unfold printE; rw [if_pos HE.out])
  have hts : t.size ≤ 100000 := by rw [← size_list, HT.out]; exact printE_len (by rw [HN.out]; omega) (by rw [HM.out]; omega)
  have HZ := Lib.hid (show (printT vs ps).length = t.size by rw [← HTL.out, size_list])
  have t1 : IntKind.i64.wrap y = y := IntWalk.i64_in _ (by omega)
  have t2 : IntKind.i64.wrap (2 * (m : Int)) = 2 * (m : Int) := IntWalk.i64_in _ (by omega)
  have t3 : IntKind.i64.wrap ((n : Int) + 2 * (m : Int)) = (n : Int) + 2 * (m : Int) := IntWalk.i64_in _ (by omega)
  have t4 : IntKind.i64.wrap ((n : Int) + 2 * (m : Int) + 1) = (n : Int) + 2 * (m : Int) + 1 := IntWalk.i64_in _ (by omega)
  obtain ⟨N, hN, hNl⟩ : ∃ N : Nat, y.tmod ((n : Int) + 2 * (m : Int) + 1) = (N : Int) ∧ N ≤ n + 2 * m := by
    have e : y.tmod ((n : Int) + 2 * (m : Int) + 1) = y % ((n : Int) + 2 * (m : Int) + 1) := Int.tmod_eq_emod_of_nonneg hy.1
    have p1 := Int.emod_nonneg y (b := (n : Int) + 2 * (m : Int) + 1) (by omega)
    have p2 := Int.emod_lt_of_pos y (b := (n : Int) + 2 * (m : Int) + 1) (by omega)
    exact ⟨(y % ((n : Int) + 2 * (m : Int) + 1)).toNat, by rw [e]; omega, by omega⟩
  have t5 : ((n : Int) + 2 * (m : Int) + 1 == 0) = false := by simp; omega
  have t6 : ¬ (n : Int) + 2 * (m : Int) + 1 = 0 := by omega
  have t7 : IntKind.i64.wrap (N : Int) = (N : Int) := IntWalk.i64_in _ (by omega)
  rcases hx5 with k1 | ⟨k1, k2⟩ | ⟨k1, k2, k3⟩
  · have k1a : (bad.toList == [120]) = true := by rw [ByteArray.toList_eq, k1]; rfl
    have k1b : (bad.toList != [120]) = false := by rw [bne, k1a]; rfl
    clear k1
    go_wp2_with fail
    refine (shown8_any _ (HTB.out _ (by first | exact hb | exact below_dN hb _ | exact hb8 | exact hb7 | exact hb6 | exact hbc | exact hbW | exact h6 | exact Below.refl _ _ | exact (Below.refl _ _).alloc (Nat.le_refl _) _ | exact hb7.alloc hb7.size _ | exact hb6.alloc hb6.size _ | exact hb2.trans (hbW.mono hb2.size) | exact hb.alloc hb.size _ | exact hb2.trans (h6.mono hb2.size)))).mono ?_
    rintro e w4 ⟨rfl, h4⟩
    replace c1 := (h4.cell (p := ⟨w.heap.size, 0, none⟩) (by dsimp only; omega)).trans c1
    replace c2 := (h4.cell (p := ⟨w.heap.size, 1, none⟩) (by dsimp only; omega)).trans c2
    replace hb := hb.trans (h4.mono hb.size)
    clear h4 z3
    go_wp2
    go_loop [10, 11] (fun s10 s11 => ∃ k : Nat, s10 = .int .i64 (plc vs ps k : Nat) ∧ s11 = .int .i64 k ∧ k ≤ N) (fun s10 s11 => N - (intOf s11).toNat)
    case atStart => exact ⟨0, rfl, rfl, Nat.zero_le _⟩
    case round =>
      obtain ⟨k, rfl, rfl, hk⟩ := hrel
      obtain ⟨P, hP⟩ : ∃ P, plc vs ps k = P := ⟨_, rfl⟩
      have hPl : P ≤ t.size + 1 := by rw [← hP, ← HZ.out]; exact plc_le k
      rw [hP]
      have HP := Lib.hid hP
      clear hP
      by_cases hlt : k < N
      · obtain ⟨wd, hw⟩ : ∃ wd, (Wl vs ps)[k]? = some wd := ⟨_, List.getElem?_eq_getElem (by rw [HW.out]; omega)⟩
        have HWD := Lib.hid hw
        obtain ⟨lw, hlw⟩ : ∃ lw, wd.length = lw := ⟨_, rfl⟩
        have HLW := Lib.hid hlw
        have hbe : P + lw = t.size ∨ (printT vs ps)[P + lw]? = some 32 := by rw [← HP.out, ← hlw, ← HZ.out]; exact byte_behind hw
        have hPt : P + lw ≤ t.size := by
          rcases hbe with h | h
          · omega
          · have := (List.getElem?_eq_some_iff.1 h).1; rw [HZ.out] at this; omega
        have HBE := Lib.hid hbe
        have HNX := Lib.hid (show plc vs ps (k + 1) = P + lw + 1 by rw [plc_step hw, HP.out, hlw]; omega)
        clear hw hlw hbe
        have q1 : decide ((k : Int) < (N : Int)) = true := by simp; omega
        have q2 : decide (k < N) = true := by simp; omega
        have q3 : IntKind.i64.wrap ((k : Int) + 1) = (k : Int) + 1 := IntWalk.i64_in _ (by omega)
        go_wp2
        go_loop [10] (fun s10 => ∃ Q : Nat, s10 = .int .i64 Q ∧ P ≤ Q ∧ Q ≤ P + lw) (fun s10 => P + lw - (intOf s10).toNat)
        case atStart => exact ⟨P, rfl, Nat.le_refl _, by omega⟩
        case round =>
          obtain ⟨Q, rfl, hQ1, hQ2⟩ := hrel
          have q4 : IntKind.i64.wrap ((Q : Int) + 1) = (Q : Int) + 1 := IntWalk.i64_in _ (by omega)
          by_cases hlt2 : Q < P + lw
          · have hQt : Q < t.size := by omega
            obtain ⟨c, hc, hc32⟩ : ∃ c, (printT vs ps)[Q]? = some c ∧ c ≠ 32 := by
              have := byte_in (vs := vs) (ps := ps) (i := k) (j := Q - P) HWD.out (by rw [HLW.out]; omega)
              rw [HP.out, show P + (Q - P) = Q by omega] at this
              exact this
            have hcQ : t[Q] = c := by
              have := byte_at t Q hQt
              rw [HTL.out, hc] at this
              exact (Option.some.inj this).symm
            have u0 : c.toNat ≠ 32 := fun h => hc32 (UInt8.toNat_inj.1 h)
            have u1 : ((c.toNat : Int) == 32) = false := by simp; omega
            have u2 : ((c.toNat : Int) != 32) = true := by simp; omega
            have u3 : (c.toNat == 32) = false := by simpa using u0
            have u4 : (c.toNat != 32) = true := by simpa using u0
            have q5 : decide ((Q : Int) < (t.size : Int)) = true := by simp; omega
            have q6 : decide (Q < t.size) = true := by simp; omega
            clear hc hc32 u0
            go_wp2
            go_round
            case rel => exact ⟨Q + 1, by go_num, by omega, by omega⟩
            case measure => (simp [intOf]; try omega)
          · obtain rfl : Q = P + lw := by omega
            have q7 : IntKind.i64.wrap (((P + lw : Nat) : Int) + 1) = ((P + lw : Nat) : Int) + 1 := q4
            rcases HBE.out with hT | h32
            · have q5 : decide ((((P + lw : Nat) : Int)) < (t.size : Int)) = false := by simp; omega
              have q6 : decide (P + lw < t.size) = false := by simp; omega
              go_wp2
              go_round
              case rel => exact ⟨k + 1, by rw [HNX.out]; go_num, by go_num, by omega⟩
              case measure => (simp [intOf]; try omega)
            · have hQt : P + lw < t.size := by have := (List.getElem?_eq_some_iff.1 h32).1; rw [HZ.out] at this; exact this
              obtain ⟨c, hc⟩ : ∃ c, t[P + lw] = c := ⟨_, rfl⟩
              have hc32 : c = 32 := by
                have := byte_at t (P + lw) hQt
                rw [HTL.out, h32, hc] at this
                exact (Option.some.inj this).symm
              have u1 : ((c.toNat : Int) == 32) = true := by rw [hc32]; rfl
              have u2 : ((c.toNat : Int) != 32) = false := by rw [hc32]; rfl
              have u3 : (c.toNat == 32) = true := by rw [hc32]; rfl
              have u4 : (c.toNat != 32) = false := by rw [hc32]; rfl
              have q5 : decide ((((P + lw : Nat) : Int)) < (t.size : Int)) = true := by simp; omega
              have q6 : decide (P + lw < t.size) = true := by simp; omega
              clear hc32 h32
              go_wp2
              go_round
              case rel => exact ⟨k + 1, by rw [HNX.out]; go_num, by go_num, by omega⟩
              case measure => (simp [intOf]; try omega)
      · obtain rfl : k = N := by omega
        have q1 : decide ((k : Int) < (k : Int)) = false := by simp
        have q2 : decide (k < k) = false := by simp
        have q3 : IntKind.i64.wrap ((t.size : Int) + 1) = (t.size : Int) + 1 := IntWalk.i64_in _ (by omega)
        have q4 : ¬ ((t.size : Int) + 1 < (P : Int)) := by omega
        have q5 : (P : Int) ≤ (t.size : Int) + 1 := by omega
        have q5b : min (P : Int) ((t.size : Int) + 1) = (P : Int) := by omega
        have q5c : min ((t.size : Int) + 1) (P : Int) = (P : Int) := by omega
        have PC := Lib.hid (show ∀ (u : ByteArray) (g : List UInt8), u.data.toList = g → u.size ≤ 200000 → parseR g = (([], []), P, 80) → ∀ w, Tabs8 w → Calls Tryd.prog 12 #[.string u] w fun e w' => ∃ A B c d, e = .returned (.tuple #[PathA A 0 c B 0 d, .int .i64 (P : Nat), .int .i64 80]) ∧ Below w.heap.size w w' from fun u g hu hz1 hg w hT => by
          have := sparse_any u g w hT hu (by rw [← hu, size_list]; omega)
          rw [hg] at this
          exact this.mono fun e w' ⟨A, B, c, d, h1, _, _, _, h2⟩ => ⟨A, B, c, d, h1, h2⟩)
        by_cases hPT : t.size < P
        · have r1 : decide ((t.size : Int) < (P : Int)) = true := by simp; omega
          have r2 : decide (t.size < P) = true := by simp; omega
          have y1 : (t ++ (⟨#[32]⟩ : ByteArray)).size = t.size + 1 := by rw [ByteArray.size_append]; rfl
          have A1 : ∀ w : World, (Op.stringOp .add t (⟨#[32]⟩ : ByteArray)).run Tryd.prog w = .ok (.string (t ++ (⟨#[32]⟩ : ByteArray))) w := fun w => run_string_add_sum w _ _ (by rw [show (⟨#[32]⟩ : ByteArray).size = 1 from rfl]; omega)
          have A2 : ∀ w : World, (Op.stringOp .add (t ++ (⟨#[32]⟩ : ByteArray)) bad).run Tryd.prog w = .ok (.string (t ++ (⟨#[32]⟩ : ByteArray) ++ bad)) w := fun w => run_string_add_sum w _ _ (by rw [y1]; omega)
          have RP := Lib.hid (PC.out (t ++ (⟨#[32]⟩ : ByteArray) ++ bad) (badT x vs ps k) (by rw [cat_list, cat_list, HTL.out, HXB.out]; exact put_end (n := k) (by rw [HZ.out, HP.out]; exact hPT) x) (by rw [ByteArray.size_append, y1]; omega) (by rw [bad_place HX.out HE.out (by rw [HW.out]; omega)]; rw [← HP.out]; rfl))
          clear y1
          go_wp2_with fail
          refine (RP.out _ (HTB.out _ (by first | exact hb | exact below_dN hb _ | exact hb8 | exact hb7 | exact hb6 | exact hbc | exact hbW | exact h6 | exact Below.refl _ _ | exact (Below.refl _ _).alloc (Nat.le_refl _) _ | exact hb7.alloc hb7.size _ | exact hb6.alloc hb6.size _ | exact hb2.trans (hbW.mono hb2.size) | exact hb.alloc hb.size _ | exact hb2.trans (h6.mono hb2.size)))).mono ?_
          rintro e w7 ⟨A7, B7, c7, d7, rfl, h7⟩
          have hb7 := hb.trans (h7.mono hb.size)
          go_wp2
          go_ret
          exact ⟨by simp, hb7.alloc hb7.size _⟩
        · have r1 : decide ((t.size : Int) < (P : Int)) = false := by simp; omega
          have r2 : decide (t.size < P) = false := by simp; omega
          have r3 : (0 : Int) ≤ (P : Int) := by omega
          have r4 : (P : Int) ≤ (t.size : Int) := by omega
          obtain ⟨e1, he1⟩ : ∃ e1, t.extract 0 P = e1 := ⟨_, rfl⟩
          obtain ⟨e2, he2⟩ : ∃ e2, t.extract P t.size = e2 := ⟨_, rfl⟩
          have l1 : e1.data.toList = (printT vs ps).take P := by rw [← he1, extract_at, HTL.out]; simp
          have l2 : e2.data.toList = (printT vs ps).drop P := by rw [← he2, extract_at, HTL.out, List.take_of_length_le (by rw [List.length_drop, HZ.out]; omega)]
          have z1 : e1.size = P := by rw [← size_list, l1, List.length_take, HZ.out]; omega
          have z2 : e2.size = t.size - P := by rw [← size_list, l2, List.length_drop, HZ.out]
          have y1 : (e1 ++ bad).size = P + bad.size := by rw [ByteArray.size_append, z1]
          have y2 : (e1 ++ bad ++ (⟨#[32]⟩ : ByteArray)).size = P + bad.size + 1 := by rw [ByteArray.size_append, y1]; rfl
          have A1 : ∀ w : World, (Op.stringOp .add e1 bad).run Tryd.prog w = .ok (.string (e1 ++ bad)) w := fun w => run_string_add_sum w _ _ (by omega)
          have A2 : ∀ w : World, (Op.stringOp .add (e1 ++ bad) (⟨#[32]⟩ : ByteArray)).run Tryd.prog w = .ok (.string (e1 ++ bad ++ (⟨#[32]⟩ : ByteArray))) w := fun w => run_string_add_sum w _ _ (by rw [y1, show (⟨#[32]⟩ : ByteArray).size = 1 from rfl]; omega)
          have A3 : ∀ w : World, (Op.stringOp .add (e1 ++ bad ++ (⟨#[32]⟩ : ByteArray)) e2).run Tryd.prog w = .ok (.string (e1 ++ bad ++ (⟨#[32]⟩ : ByteArray) ++ e2)) w := fun w => run_string_add_sum w _ _ (by rw [y2]; omega)
          have RP := Lib.hid (PC.out (e1 ++ bad ++ (⟨#[32]⟩ : ByteArray) ++ e2) _ rfl (by rw [ByteArray.size_append, y2]; omega) (by
            rw [cat_list, cat_list, cat_list, l1, l2, HXB.out]
            by_cases hW : Wl vs ps = []
            · have h0 : P = 0 := by rw [← HP.out]; unfold plc; rw [hW, List.take_nil]; rfl
              rw [no_words hW, h0]
              show parseR ([] ++ x ++ [32] ++ []) = _
              rw [List.nil_append, List.append_nil, HXL.out]
            · have hp := put_mid (n := k) hW (by rw [HZ.out, HP.out]; omega) x
              rw [HP.out] at hp
              show parseR ((printT vs ps).take P ++ x ++ [32] ++ (printT vs ps).drop P) = _
              rw [hp, bad_place HX.out HE.out (by rw [HW.out]; omega)]; rw [← HP.out]; rfl))
          clear y1 y2 l1 l2 z1 z2
          go_upto_region 16 with fail
          go_quiet (fail)
          go_wp2_with fail
          refine (RP.out _ (HTB.out _ (by first | exact hb | exact below_dN hb _ | exact hb8 | exact hb7 | exact hb6 | exact hbc | exact hbW | exact h6 | exact Below.refl _ _ | exact (Below.refl _ _).alloc (Nat.le_refl _) _ | exact hb7.alloc hb7.size _ | exact hb6.alloc hb6.size _ | exact hb2.trans (hbW.mono hb2.size) | exact hb.alloc hb.size _ | exact hb2.trans (h6.mono hb2.size)))).mono ?_
          rintro e w7 ⟨A7, B7, c7, d7, rfl, h7⟩
          have hb7 : Below w.heap.size w w7 := (below_dN hb _).trans (h7.mono (below_dN hb _).size)
          go_wp2
          go_ret
          exact ⟨by simp, hb7.alloc hb7.size _⟩
  · have k1a : (bad.toList == [120]) = false := by rw [ByteArray.toList_eq]; simpa using k1
    have k1b : (bad.toList != [120]) = true := by rw [bne, k1a]; rfl
    have k2a : (bad.toList == [49, 46, 46]) = true := by rw [ByteArray.toList_eq, k2]; rfl
    have k2b : (bad.toList != [49, 46, 46]) = false := by rw [bne, k2a]; rfl
    clear k1 k2
    go_wp2_with fail
    refine (shown8_any _ (HTB.out _ (by first | exact hb | exact below_dN hb _ | exact hb8 | exact hb7 | exact hb6 | exact hbc | exact hbW | exact h6 | exact Below.refl _ _ | exact (Below.refl _ _).alloc (Nat.le_refl _) _ | exact hb7.alloc hb7.size _ | exact hb6.alloc hb6.size _ | exact hb2.trans (hbW.mono hb2.size) | exact hb.alloc hb.size _ | exact hb2.trans (h6.mono hb2.size)))).mono ?_
    rintro e w4 ⟨rfl, h4⟩
    replace c1 := (h4.cell (p := ⟨w.heap.size, 0, none⟩) (by dsimp only; omega)).trans c1
    replace c2 := (h4.cell (p := ⟨w.heap.size, 1, none⟩) (by dsimp only; omega)).trans c2
    replace hb := hb.trans (h4.mono hb.size)
    clear h4 z3
    go_wp2
    go_loop [10, 11] (fun s10 s11 => ∃ k : Nat, s10 = .int .i64 (plc vs ps k : Nat) ∧ s11 = .int .i64 k ∧ k ≤ N) (fun s10 s11 => N - (intOf s11).toNat)
    case atStart => exact ⟨0, rfl, rfl, Nat.zero_le _⟩
    case round =>
      obtain ⟨k, rfl, rfl, hk⟩ := hrel
      obtain ⟨P, hP⟩ : ∃ P, plc vs ps k = P := ⟨_, rfl⟩
      have hPl : P ≤ t.size + 1 := by rw [← hP, ← HZ.out]; exact plc_le k
      rw [hP]
      have HP := Lib.hid hP
      clear hP
      by_cases hlt : k < N
      · obtain ⟨wd, hw⟩ : ∃ wd, (Wl vs ps)[k]? = some wd := ⟨_, List.getElem?_eq_getElem (by rw [HW.out]; omega)⟩
        have HWD := Lib.hid hw
        obtain ⟨lw, hlw⟩ : ∃ lw, wd.length = lw := ⟨_, rfl⟩
        have HLW := Lib.hid hlw
        have hbe : P + lw = t.size ∨ (printT vs ps)[P + lw]? = some 32 := by rw [← HP.out, ← hlw, ← HZ.out]; exact byte_behind hw
        have hPt : P + lw ≤ t.size := by
          rcases hbe with h | h
          · omega
          · have := (List.getElem?_eq_some_iff.1 h).1; rw [HZ.out] at this; omega
        have HBE := Lib.hid hbe
        have HNX := Lib.hid (show plc vs ps (k + 1) = P + lw + 1 by rw [plc_step hw, HP.out, hlw]; omega)
        clear hw hlw hbe
        have q1 : decide ((k : Int) < (N : Int)) = true := by simp; omega
        have q2 : decide (k < N) = true := by simp; omega
        have q3 : IntKind.i64.wrap ((k : Int) + 1) = (k : Int) + 1 := IntWalk.i64_in _ (by omega)
        go_wp2
        go_loop [10] (fun s10 => ∃ Q : Nat, s10 = .int .i64 Q ∧ P ≤ Q ∧ Q ≤ P + lw) (fun s10 => P + lw - (intOf s10).toNat)
        case atStart => exact ⟨P, rfl, Nat.le_refl _, by omega⟩
        case round =>
          obtain ⟨Q, rfl, hQ1, hQ2⟩ := hrel
          have q4 : IntKind.i64.wrap ((Q : Int) + 1) = (Q : Int) + 1 := IntWalk.i64_in _ (by omega)
          by_cases hlt2 : Q < P + lw
          · have hQt : Q < t.size := by omega
            obtain ⟨c, hc, hc32⟩ : ∃ c, (printT vs ps)[Q]? = some c ∧ c ≠ 32 := by
              have := byte_in (vs := vs) (ps := ps) (i := k) (j := Q - P) HWD.out (by rw [HLW.out]; omega)
              rw [HP.out, show P + (Q - P) = Q by omega] at this
              exact this
            have hcQ : t[Q] = c := by
              have := byte_at t Q hQt
              rw [HTL.out, hc] at this
              exact (Option.some.inj this).symm
            have u0 : c.toNat ≠ 32 := fun h => hc32 (UInt8.toNat_inj.1 h)
            have u1 : ((c.toNat : Int) == 32) = false := by simp; omega
            have u2 : ((c.toNat : Int) != 32) = true := by simp; omega
            have u3 : (c.toNat == 32) = false := by simpa using u0
            have u4 : (c.toNat != 32) = true := by simpa using u0
            have q5 : decide ((Q : Int) < (t.size : Int)) = true := by simp; omega
            have q6 : decide (Q < t.size) = true := by simp; omega
            clear hc hc32 u0
            go_wp2
            go_round
            case rel => exact ⟨Q + 1, by go_num, by omega, by omega⟩
            case measure => (simp [intOf]; try omega)
          · obtain rfl : Q = P + lw := by omega
            have q7 : IntKind.i64.wrap (((P + lw : Nat) : Int) + 1) = ((P + lw : Nat) : Int) + 1 := q4
            rcases HBE.out with hT | h32
            · have q5 : decide ((((P + lw : Nat) : Int)) < (t.size : Int)) = false := by simp; omega
              have q6 : decide (P + lw < t.size) = false := by simp; omega
              go_wp2
              go_round
              case rel => exact ⟨k + 1, by rw [HNX.out]; go_num, by go_num, by omega⟩
              case measure => (simp [intOf]; try omega)
            · have hQt : P + lw < t.size := by have := (List.getElem?_eq_some_iff.1 h32).1; rw [HZ.out] at this; exact this
              obtain ⟨c, hc⟩ : ∃ c, t[P + lw] = c := ⟨_, rfl⟩
              have hc32 : c = 32 := by
                have := byte_at t (P + lw) hQt
                rw [HTL.out, h32, hc] at this
                exact (Option.some.inj this).symm
              have u1 : ((c.toNat : Int) == 32) = true := by rw [hc32]; rfl
              have u2 : ((c.toNat : Int) != 32) = false := by rw [hc32]; rfl
              have u3 : (c.toNat == 32) = true := by rw [hc32]; rfl
              have u4 : (c.toNat != 32) = false := by rw [hc32]; rfl
              have q5 : decide ((((P + lw : Nat) : Int)) < (t.size : Int)) = true := by simp; omega
              have q6 : decide (P + lw < t.size) = true := by simp; omega
              clear hc32 h32
              go_wp2
              go_round
              case rel => exact ⟨k + 1, by rw [HNX.out]; go_num, by go_num, by omega⟩
              case measure => (simp [intOf]; try omega)
      · obtain rfl : k = N := by omega
        have q1 : decide ((k : Int) < (k : Int)) = false := by simp
        have q2 : decide (k < k) = false := by simp
        have q3 : IntKind.i64.wrap ((t.size : Int) + 1) = (t.size : Int) + 1 := IntWalk.i64_in _ (by omega)
        have q4 : ¬ ((t.size : Int) + 1 < (P : Int)) := by omega
        have q5 : (P : Int) ≤ (t.size : Int) + 1 := by omega
        have q5b : min (P : Int) ((t.size : Int) + 1) = (P : Int) := by omega
        have q5c : min ((t.size : Int) + 1) (P : Int) = (P : Int) := by omega
        have PC := Lib.hid (show ∀ (u : ByteArray) (g : List UInt8), u.data.toList = g → u.size ≤ 200000 → parseR g = (([], []), P, 80) → ∀ w, Tabs8 w → Calls Tryd.prog 12 #[.string u] w fun e w' => ∃ A B c d, e = .returned (.tuple #[PathA A 0 c B 0 d, .int .i64 (P : Nat), .int .i64 80]) ∧ Below w.heap.size w w' from fun u g hu hz1 hg w hT => by
          have := sparse_any u g w hT hu (by rw [← hu, size_list]; omega)
          rw [hg] at this
          exact this.mono fun e w' ⟨A, B, c, d, h1, _, _, _, h2⟩ => ⟨A, B, c, d, h1, h2⟩)
        by_cases hPT : t.size < P
        · have r1 : decide ((t.size : Int) < (P : Int)) = true := by simp; omega
          have r2 : decide (t.size < P) = true := by simp; omega
          have y1 : (t ++ (⟨#[32]⟩ : ByteArray)).size = t.size + 1 := by rw [ByteArray.size_append]; rfl
          have A1 : ∀ w : World, (Op.stringOp .add t (⟨#[32]⟩ : ByteArray)).run Tryd.prog w = .ok (.string (t ++ (⟨#[32]⟩ : ByteArray))) w := fun w => run_string_add_sum w _ _ (by rw [show (⟨#[32]⟩ : ByteArray).size = 1 from rfl]; omega)
          have A2 : ∀ w : World, (Op.stringOp .add (t ++ (⟨#[32]⟩ : ByteArray)) bad).run Tryd.prog w = .ok (.string (t ++ (⟨#[32]⟩ : ByteArray) ++ bad)) w := fun w => run_string_add_sum w _ _ (by rw [y1]; omega)
          have RP := Lib.hid (PC.out (t ++ (⟨#[32]⟩ : ByteArray) ++ bad) (badT x vs ps k) (by rw [cat_list, cat_list, HTL.out, HXB.out]; exact put_end (n := k) (by rw [HZ.out, HP.out]; exact hPT) x) (by rw [ByteArray.size_append, y1]; omega) (by rw [bad_place HX.out HE.out (by rw [HW.out]; omega)]; rw [← HP.out]; rfl))
          clear y1
          go_wp2_with fail
          refine (RP.out _ (HTB.out _ (by first | exact hb | exact below_dN hb _ | exact hb8 | exact hb7 | exact hb6 | exact hbc | exact hbW | exact h6 | exact Below.refl _ _ | exact (Below.refl _ _).alloc (Nat.le_refl _) _ | exact hb7.alloc hb7.size _ | exact hb6.alloc hb6.size _ | exact hb2.trans (hbW.mono hb2.size) | exact hb.alloc hb.size _ | exact hb2.trans (h6.mono hb2.size)))).mono ?_
          rintro e w7 ⟨A7, B7, c7, d7, rfl, h7⟩
          have hb7 := hb.trans (h7.mono hb.size)
          go_wp2
          go_ret
          exact ⟨by simp, hb7.alloc hb7.size _⟩
        · have r1 : decide ((t.size : Int) < (P : Int)) = false := by simp; omega
          have r2 : decide (t.size < P) = false := by simp; omega
          have r3 : (0 : Int) ≤ (P : Int) := by omega
          have r4 : (P : Int) ≤ (t.size : Int) := by omega
          obtain ⟨e1, he1⟩ : ∃ e1, t.extract 0 P = e1 := ⟨_, rfl⟩
          obtain ⟨e2, he2⟩ : ∃ e2, t.extract P t.size = e2 := ⟨_, rfl⟩
          have l1 : e1.data.toList = (printT vs ps).take P := by rw [← he1, extract_at, HTL.out]; simp
          have l2 : e2.data.toList = (printT vs ps).drop P := by rw [← he2, extract_at, HTL.out, List.take_of_length_le (by rw [List.length_drop, HZ.out]; omega)]
          have z1 : e1.size = P := by rw [← size_list, l1, List.length_take, HZ.out]; omega
          have z2 : e2.size = t.size - P := by rw [← size_list, l2, List.length_drop, HZ.out]
          have y1 : (e1 ++ bad).size = P + bad.size := by rw [ByteArray.size_append, z1]
          have y2 : (e1 ++ bad ++ (⟨#[32]⟩ : ByteArray)).size = P + bad.size + 1 := by rw [ByteArray.size_append, y1]; rfl
          have A1 : ∀ w : World, (Op.stringOp .add e1 bad).run Tryd.prog w = .ok (.string (e1 ++ bad)) w := fun w => run_string_add_sum w _ _ (by omega)
          have A2 : ∀ w : World, (Op.stringOp .add (e1 ++ bad) (⟨#[32]⟩ : ByteArray)).run Tryd.prog w = .ok (.string (e1 ++ bad ++ (⟨#[32]⟩ : ByteArray))) w := fun w => run_string_add_sum w _ _ (by rw [y1, show (⟨#[32]⟩ : ByteArray).size = 1 from rfl]; omega)
          have A3 : ∀ w : World, (Op.stringOp .add (e1 ++ bad ++ (⟨#[32]⟩ : ByteArray)) e2).run Tryd.prog w = .ok (.string (e1 ++ bad ++ (⟨#[32]⟩ : ByteArray) ++ e2)) w := fun w => run_string_add_sum w _ _ (by rw [y2]; omega)
          have RP := Lib.hid (PC.out (e1 ++ bad ++ (⟨#[32]⟩ : ByteArray) ++ e2) _ rfl (by rw [ByteArray.size_append, y2]; omega) (by
            rw [cat_list, cat_list, cat_list, l1, l2, HXB.out]
            by_cases hW : Wl vs ps = []
            · have h0 : P = 0 := by rw [← HP.out]; unfold plc; rw [hW, List.take_nil]; rfl
              rw [no_words hW, h0]
              show parseR ([] ++ x ++ [32] ++ []) = _
              rw [List.nil_append, List.append_nil, HXL.out]
            · have hp := put_mid (n := k) hW (by rw [HZ.out, HP.out]; omega) x
              rw [HP.out] at hp
              show parseR ((printT vs ps).take P ++ x ++ [32] ++ (printT vs ps).drop P) = _
              rw [hp, bad_place HX.out HE.out (by rw [HW.out]; omega)]; rw [← HP.out]; rfl))
          clear y1 y2 l1 l2 z1 z2
          go_upto_region 16 with fail
          go_quiet (fail)
          go_wp2_with fail
          refine (RP.out _ (HTB.out _ (by first | exact hb | exact below_dN hb _ | exact hb8 | exact hb7 | exact hb6 | exact hbc | exact hbW | exact h6 | exact Below.refl _ _ | exact (Below.refl _ _).alloc (Nat.le_refl _) _ | exact hb7.alloc hb7.size _ | exact hb6.alloc hb6.size _ | exact hb2.trans (hbW.mono hb2.size) | exact hb.alloc hb.size _ | exact hb2.trans (h6.mono hb2.size)))).mono ?_
          rintro e w7 ⟨A7, B7, c7, d7, rfl, h7⟩
          have hb7 : Below w.heap.size w w7 := (below_dN hb _).trans (h7.mono (below_dN hb _).size)
          go_wp2
          go_ret
          exact ⟨by simp, hb7.alloc hb7.size _⟩
  · have k1a : (bad.toList == [120]) = false := by rw [ByteArray.toList_eq]; simpa using k1
    have k1b : (bad.toList != [120]) = true := by rw [bne, k1a]; rfl
    have k2a : (bad.toList == [49, 46, 46]) = false := by rw [ByteArray.toList_eq]; simpa using k2
    have k2b : (bad.toList != [49, 46, 46]) = true := by rw [bne, k2a]; rfl
    have k3a : (bad.toList == [76, 76]) = true := by rw [ByteArray.toList_eq, k3]; rfl
    have k3b : (bad.toList != [76, 76]) = false := by rw [bne, k3a]; rfl
    clear k1 k2 k3
    go_wp2_with fail
    refine (shown8_any _ (HTB.out _ (by first | exact hb | exact below_dN hb _ | exact hb8 | exact hb7 | exact hb6 | exact hbc | exact hbW | exact h6 | exact Below.refl _ _ | exact (Below.refl _ _).alloc (Nat.le_refl _) _ | exact hb7.alloc hb7.size _ | exact hb6.alloc hb6.size _ | exact hb2.trans (hbW.mono hb2.size) | exact hb.alloc hb.size _ | exact hb2.trans (h6.mono hb2.size)))).mono ?_
    rintro e w4 ⟨rfl, h4⟩
    replace c1 := (h4.cell (p := ⟨w.heap.size, 0, none⟩) (by dsimp only; omega)).trans c1
    replace c2 := (h4.cell (p := ⟨w.heap.size, 1, none⟩) (by dsimp only; omega)).trans c2
    replace hb := hb.trans (h4.mono hb.size)
    clear h4 z3
    go_wp2
    go_loop [10, 11] (fun s10 s11 => ∃ k : Nat, s10 = .int .i64 (plc vs ps k : Nat) ∧ s11 = .int .i64 k ∧ k ≤ N) (fun s10 s11 => N - (intOf s11).toNat)
    case atStart => exact ⟨0, rfl, rfl, Nat.zero_le _⟩
    case round =>
      obtain ⟨k, rfl, rfl, hk⟩ := hrel
      obtain ⟨P, hP⟩ : ∃ P, plc vs ps k = P := ⟨_, rfl⟩
      have hPl : P ≤ t.size + 1 := by rw [← hP, ← HZ.out]; exact plc_le k
      rw [hP]
      have HP := Lib.hid hP
      clear hP
      by_cases hlt : k < N
      · obtain ⟨wd, hw⟩ : ∃ wd, (Wl vs ps)[k]? = some wd := ⟨_, List.getElem?_eq_getElem (by rw [HW.out]; omega)⟩
        have HWD := Lib.hid hw
        obtain ⟨lw, hlw⟩ : ∃ lw, wd.length = lw := ⟨_, rfl⟩
        have HLW := Lib.hid hlw
        have hbe : P + lw = t.size ∨ (printT vs ps)[P + lw]? = some 32 := by rw [← HP.out, ← hlw, ← HZ.out]; exact byte_behind hw
        have hPt : P + lw ≤ t.size := by
          rcases hbe with h | h
          · omega
          · have := (List.getElem?_eq_some_iff.1 h).1; rw [HZ.out] at this; omega
        have HBE := Lib.hid hbe
        have HNX := Lib.hid (show plc vs ps (k + 1) = P + lw + 1 by rw [plc_step hw, HP.out, hlw]; omega)
        clear hw hlw hbe
        have q1 : decide ((k : Int) < (N : Int)) = true := by simp; omega
        have q2 : decide (k < N) = true := by simp; omega
        have q3 : IntKind.i64.wrap ((k : Int) + 1) = (k : Int) + 1 := IntWalk.i64_in _ (by omega)
        go_wp2
        go_loop [10] (fun s10 => ∃ Q : Nat, s10 = .int .i64 Q ∧ P ≤ Q ∧ Q ≤ P + lw) (fun s10 => P + lw - (intOf s10).toNat)
        case atStart => exact ⟨P, rfl, Nat.le_refl _, by omega⟩
        case round =>
          obtain ⟨Q, rfl, hQ1, hQ2⟩ := hrel
          have q4 : IntKind.i64.wrap ((Q : Int) + 1) = (Q : Int) + 1 := IntWalk.i64_in _ (by omega)
          by_cases hlt2 : Q < P + lw
          · have hQt : Q < t.size := by omega
            obtain ⟨c, hc, hc32⟩ : ∃ c, (printT vs ps)[Q]? = some c ∧ c ≠ 32 := by
              have := byte_in (vs := vs) (ps := ps) (i := k) (j := Q - P) HWD.out (by rw [HLW.out]; omega)
              rw [HP.out, show P + (Q - P) = Q by omega] at this
              exact this
            have hcQ : t[Q] = c := by
              have := byte_at t Q hQt
              rw [HTL.out, hc] at this
              exact (Option.some.inj this).symm
            have u0 : c.toNat ≠ 32 := fun h => hc32 (UInt8.toNat_inj.1 h)
            have u1 : ((c.toNat : Int) == 32) = false := by simp; omega
            have u2 : ((c.toNat : Int) != 32) = true := by simp; omega
            have u3 : (c.toNat == 32) = false := by simpa using u0
            have u4 : (c.toNat != 32) = true := by simpa using u0
            have q5 : decide ((Q : Int) < (t.size : Int)) = true := by simp; omega
            have q6 : decide (Q < t.size) = true := by simp; omega
            clear hc hc32 u0
            go_wp2
            go_round
            case rel => exact ⟨Q + 1, by go_num, by omega, by omega⟩
            case measure => (simp [intOf]; try omega)
          · obtain rfl : Q = P + lw := by omega
            have q7 : IntKind.i64.wrap (((P + lw : Nat) : Int) + 1) = ((P + lw : Nat) : Int) + 1 := q4
            rcases HBE.out with hT | h32
            · have q5 : decide ((((P + lw : Nat) : Int)) < (t.size : Int)) = false := by simp; omega
              have q6 : decide (P + lw < t.size) = false := by simp; omega
              go_wp2
              go_round
              case rel => exact ⟨k + 1, by rw [HNX.out]; go_num, by go_num, by omega⟩
              case measure => (simp [intOf]; try omega)
            · have hQt : P + lw < t.size := by have := (List.getElem?_eq_some_iff.1 h32).1; rw [HZ.out] at this; exact this
              obtain ⟨c, hc⟩ : ∃ c, t[P + lw] = c := ⟨_, rfl⟩
              have hc32 : c = 32 := by
                have := byte_at t (P + lw) hQt
                rw [HTL.out, h32, hc] at this
                exact (Option.some.inj this).symm
              have u1 : ((c.toNat : Int) == 32) = true := by rw [hc32]; rfl
              have u2 : ((c.toNat : Int) != 32) = false := by rw [hc32]; rfl
              have u3 : (c.toNat == 32) = true := by rw [hc32]; rfl
              have u4 : (c.toNat != 32) = false := by rw [hc32]; rfl
              have q5 : decide ((((P + lw : Nat) : Int)) < (t.size : Int)) = true := by simp; omega
              have q6 : decide (P + lw < t.size) = true := by simp; omega
              clear hc32 h32
              go_wp2
              go_round
              case rel => exact ⟨k + 1, by rw [HNX.out]; go_num, by go_num, by omega⟩
              case measure => (simp [intOf]; try omega)
      · obtain rfl : k = N := by omega
        have q1 : decide ((k : Int) < (k : Int)) = false := by simp
        have q2 : decide (k < k) = false := by simp
        have q3 : IntKind.i64.wrap ((t.size : Int) + 1) = (t.size : Int) + 1 := IntWalk.i64_in _ (by omega)
        have q4 : ¬ ((t.size : Int) + 1 < (P : Int)) := by omega
        have q5 : (P : Int) ≤ (t.size : Int) + 1 := by omega
        have q5b : min (P : Int) ((t.size : Int) + 1) = (P : Int) := by omega
        have q5c : min ((t.size : Int) + 1) (P : Int) = (P : Int) := by omega
        have PC := Lib.hid (show ∀ (u : ByteArray) (g : List UInt8), u.data.toList = g → u.size ≤ 200000 → parseR g = (([], []), P, 80) → ∀ w, Tabs8 w → Calls Tryd.prog 12 #[.string u] w fun e w' => ∃ A B c d, e = .returned (.tuple #[PathA A 0 c B 0 d, .int .i64 (P : Nat), .int .i64 80]) ∧ Below w.heap.size w w' from fun u g hu hz1 hg w hT => by
          have := sparse_any u g w hT hu (by rw [← hu, size_list]; omega)
          rw [hg] at this
          exact this.mono fun e w' ⟨A, B, c, d, h1, _, _, _, h2⟩ => ⟨A, B, c, d, h1, h2⟩)
        by_cases hPT : t.size < P
        · have r1 : decide ((t.size : Int) < (P : Int)) = true := by simp; omega
          have r2 : decide (t.size < P) = true := by simp; omega
          have y1 : (t ++ (⟨#[32]⟩ : ByteArray)).size = t.size + 1 := by rw [ByteArray.size_append]; rfl
          have A1 : ∀ w : World, (Op.stringOp .add t (⟨#[32]⟩ : ByteArray)).run Tryd.prog w = .ok (.string (t ++ (⟨#[32]⟩ : ByteArray))) w := fun w => run_string_add_sum w _ _ (by rw [show (⟨#[32]⟩ : ByteArray).size = 1 from rfl]; omega)
          have A2 : ∀ w : World, (Op.stringOp .add (t ++ (⟨#[32]⟩ : ByteArray)) bad).run Tryd.prog w = .ok (.string (t ++ (⟨#[32]⟩ : ByteArray) ++ bad)) w := fun w => run_string_add_sum w _ _ (by rw [y1]; omega)
          have RP := Lib.hid (PC.out (t ++ (⟨#[32]⟩ : ByteArray) ++ bad) (badT x vs ps k) (by rw [cat_list, cat_list, HTL.out, HXB.out]; exact put_end (n := k) (by rw [HZ.out, HP.out]; exact hPT) x) (by rw [ByteArray.size_append, y1]; omega) (by rw [bad_place HX.out HE.out (by rw [HW.out]; omega)]; rw [← HP.out]; rfl))
          clear y1
          go_wp2_with fail
          refine (RP.out _ (HTB.out _ (by first | exact hb | exact below_dN hb _ | exact hb8 | exact hb7 | exact hb6 | exact hbc | exact hbW | exact h6 | exact Below.refl _ _ | exact (Below.refl _ _).alloc (Nat.le_refl _) _ | exact hb7.alloc hb7.size _ | exact hb6.alloc hb6.size _ | exact hb2.trans (hbW.mono hb2.size) | exact hb.alloc hb.size _ | exact hb2.trans (h6.mono hb2.size)))).mono ?_
          rintro e w7 ⟨A7, B7, c7, d7, rfl, h7⟩
          have hb7 := hb.trans (h7.mono hb.size)
          go_wp2
          go_ret
          exact ⟨by simp, hb7.alloc hb7.size _⟩
        · have r1 : decide ((t.size : Int) < (P : Int)) = false := by simp; omega
          have r2 : decide (t.size < P) = false := by simp; omega
          have r3 : (0 : Int) ≤ (P : Int) := by omega
          have r4 : (P : Int) ≤ (t.size : Int) := by omega
          obtain ⟨e1, he1⟩ : ∃ e1, t.extract 0 P = e1 := ⟨_, rfl⟩
          obtain ⟨e2, he2⟩ : ∃ e2, t.extract P t.size = e2 := ⟨_, rfl⟩
          have l1 : e1.data.toList = (printT vs ps).take P := by rw [← he1, extract_at, HTL.out]; simp
          have l2 : e2.data.toList = (printT vs ps).drop P := by rw [← he2, extract_at, HTL.out, List.take_of_length_le (by rw [List.length_drop, HZ.out]; omega)]
          have z1 : e1.size = P := by rw [← size_list, l1, List.length_take, HZ.out]; omega
          have z2 : e2.size = t.size - P := by rw [← size_list, l2, List.length_drop, HZ.out]
          have y1 : (e1 ++ bad).size = P + bad.size := by rw [ByteArray.size_append, z1]
          have y2 : (e1 ++ bad ++ (⟨#[32]⟩ : ByteArray)).size = P + bad.size + 1 := by rw [ByteArray.size_append, y1]; rfl
          have A1 : ∀ w : World, (Op.stringOp .add e1 bad).run Tryd.prog w = .ok (.string (e1 ++ bad)) w := fun w => run_string_add_sum w _ _ (by omega)
          have A2 : ∀ w : World, (Op.stringOp .add (e1 ++ bad) (⟨#[32]⟩ : ByteArray)).run Tryd.prog w = .ok (.string (e1 ++ bad ++ (⟨#[32]⟩ : ByteArray))) w := fun w => run_string_add_sum w _ _ (by rw [y1, show (⟨#[32]⟩ : ByteArray).size = 1 from rfl]; omega)
          have A3 : ∀ w : World, (Op.stringOp .add (e1 ++ bad ++ (⟨#[32]⟩ : ByteArray)) e2).run Tryd.prog w = .ok (.string (e1 ++ bad ++ (⟨#[32]⟩ : ByteArray) ++ e2)) w := fun w => run_string_add_sum w _ _ (by rw [y2]; omega)
          have RP := Lib.hid (PC.out (e1 ++ bad ++ (⟨#[32]⟩ : ByteArray) ++ e2) _ rfl (by rw [ByteArray.size_append, y2]; omega) (by
            rw [cat_list, cat_list, cat_list, l1, l2, HXB.out]
            by_cases hW : Wl vs ps = []
            · have h0 : P = 0 := by rw [← HP.out]; unfold plc; rw [hW, List.take_nil]; rfl
              rw [no_words hW, h0]
              show parseR ([] ++ x ++ [32] ++ []) = _
              rw [List.nil_append, List.append_nil, HXL.out]
            · have hp := put_mid (n := k) hW (by rw [HZ.out, HP.out]; omega) x
              rw [HP.out] at hp
              show parseR ((printT vs ps).take P ++ x ++ [32] ++ (printT vs ps).drop P) = _
              rw [hp, bad_place HX.out HE.out (by rw [HW.out]; omega)]; rw [← HP.out]; rfl))
          clear y1 y2 l1 l2 z1 z2
          go_upto_region 16 with fail
          go_quiet (fail)
          go_wp2_with fail
          refine (RP.out _ (HTB.out _ (by first | exact hb | exact below_dN hb _ | exact hb8 | exact hb7 | exact hb6 | exact hbc | exact hbW | exact h6 | exact Below.refl _ _ | exact (Below.refl _ _).alloc (Nat.le_refl _) _ | exact hb7.alloc hb7.size _ | exact hb6.alloc hb6.size _ | exact hb2.trans (hbW.mono hb2.size) | exact hb.alloc hb.size _ | exact hb2.trans (h6.mono hb2.size)))).mono ?_
          rintro e w7 ⟨A7, B7, c7, d7, rfl, h7⟩
          have hb7 : Below w.heap.size w w7 := (below_dN hb _).trans (h7.mono (below_dN hb _).size)
          go_wp2
          go_ret
          exact ⟨by simp, hb7.alloc hb7.size _⟩
end Go.Proofs.YtjjklchfcklahaaDoor
