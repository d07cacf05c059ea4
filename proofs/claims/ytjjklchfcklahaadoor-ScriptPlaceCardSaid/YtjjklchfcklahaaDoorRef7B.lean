/- Whether a path may be: the document's own answer. -/
import Derived.Test.YtjjklchfcklahaaDoorRef7
namespace Go.Proofs.YtjjklchfcklahaaDoor
open Go.RowKit
set_option linter.unusedVariables false
set_option linter.unusedSimpArgs false
set_option maxHeartbeats 4000000
set_option maxRecDepth 100000

theorem drop_at {α : Type} {l : List α} {k : Nat} {p : α} (h : l[k]? = some p) : l.drop k = p :: l.drop (k + 1) := by
  obtain ⟨hk, e⟩ := List.getElem?_eq_some_iff.1 h
  rw [List.drop_eq_getElem_cons hk, e]
theorem chk_drop {vs : List Int} {i : Nat} {v p : Int} (h : vs[i]? = some v) : chk p (vs.drop i) = if takesV v < 0 then 1 else if v ≠ 1 ∧ p = 5 then 70 else chk v (vs.drop (i + 1)) := by
  rw [drop_at h]; rfl
theorem needs_drop {vs : List Int} {i : Nat} {v : Int} (h : vs[i]? = some v) : needs (vs.drop i) = takesV v + needs (vs.drop (i + 1)) := by
  rw [drop_at h]; rfl
theorem takes_bd (v : Int) : -1 ≤ takesV v ∧ takesV v ≤ 3 := by
  unfold takesV; split
  · omega
  · split
    · omega
    · split
      · omega
      · split <;> omega
theorem check_many {vs : List Int} {ps : List Pnt} (h : 512 < vs.length) : pathE vs ps = 74 := by unfold pathE; rw [if_pos h]
theorem check_bad2 {vs : List Int} {ps : List Pnt} {k : Int} (h : ¬ 512 < vs.length) (hk : chk 5 vs = k) (h0 : k ≠ 0) : pathE vs ps = k := by
  subst hk; unfold pathE; rw [if_neg h, if_pos h0]
theorem check_good {vs : List Int} {ps : List Pnt} (h : ¬ 512 < vs.length) (hk : chk 5 vs = 0) : pathE vs ps = if needs vs ≠ (ps.length : Int) then 71 else if ps.any farV then 72 else 0 := by
  unfold pathE; rw [if_neg h, if_neg (by simpa using hk)]

theorem r7check_any (A B : Option Addr) (cv cp : Nat) (vs : List Int) (ps : List Pnt) (w : World) (hr : Vals w w.heap.size A (vs.map iV)) (hq : Cor w w.heap.size B ps) (hl : vs.length ≤ 9223372036854775807) (hp : ps.length ≤ 9223372036854775807) :
    Calls Tryd.prog 20 #[.agg #[.slice A vs.length cv, .slice B ps.length cp]] w fun e w' => e = .returned (.int .i64 (pathE vs ps)) ∧ Below w.heap.size w w' := by
  have HR := Lib.hid hr
  have HQ := Lib.hid hq
  clear hr hq
  obtain ⟨L, hL⟩ : ∃ L, vs.length = L := ⟨_, rfl⟩
  obtain ⟨M, hM⟩ : ∃ M, ps.length = M := ⟨_, rfl⟩
  rw [hL] at hl ⊢
  rw [hM] at hp ⊢
  have HL := Lib.hid hL
  have HM := Lib.hid hM
  clear hL hM
  by_cases h512 : 512 < L
  · have F := Lib.hid (check_many (ps := ps) (show 512 < vs.length by rw [HL.out]; exact h512))
    have q1 : decide ((L : Int) > 512) = true := by simp; omega
    have q2 : decide ((512 : Int) < (L : Int)) = true := by simp; omega
    go_enter Tryd.func20, Tryd.ntmps20
    go_wp2
    go_ret
    exact ⟨by rw [F.out]; rfl, (Below.refl _ _).alloc (Nat.le_refl _) _⟩
  · have H5 := Lib.hid (show ¬ 512 < vs.length by rw [HL.out]; exact h512)
    have q1 : decide ((L : Int) > 512) = false := by simp; omega
    have q2 : decide ((512 : Int) < (L : Int)) = false := by simp; omega
    go_enter Tryd.func20, Tryd.ntmps20
    go_wp2_with fail
    go_loopw [3, 4] (fun s3 s4 wr => ∃ (i : Nat) (n p : Int), s3 = .int .i64 n ∧ s4 = .int .i64 i ∧ i ≤ L ∧ (n + needs (vs.drop i) = needs vs ∧ chk 5 vs = chk p (vs.drop i)) ∧ (0 ≤ n ∧ n ≤ 3 * i) ∧ ((i = 0 ∧ p = 5) ∨ (0 < i ∧ vs[i - 1]? = some p)) ∧ wr.cell? ⟨w.heap.size, 0, none⟩ = some (.slice A L cv) ∧ wr.cell? ⟨w.heap.size, 1, none⟩ = some (.slice B M cp) ∧ w.heap.size + 1 ≤ wr.heap.size ∧ Below w.heap.size w wr) (fun _ s4 _ => L - (intOf s4).toNat)
    case atStart => exact ⟨0, 0, 5, rfl, rfl, Nat.zero_le _, ⟨by simp, rfl⟩, by omega, .inl ⟨rfl, rfl⟩, by simp, by simp, by simp, (Below.refl _ _).alloc (Nat.le_refl _) _⟩
    case round =>
      obtain ⟨i, n, p, rfl, rfl, hi, hnc, hn, hp1, c1, c2, hs, hb⟩ := hrel
      have HNC := Lib.hid hnc
      clear hnc
      by_cases hlt : i < L
      · obtain ⟨v, hv⟩ : ∃ v, vs[i]? = some v := ⟨_, List.getElem?_eq_getElem (by rw [HL.out]; exact hlt)⟩
        obtain ⟨ad, rfl, hB, c3⟩ := ints_at (HR.out.step hb) hv
        have HC := Lib.hid (HNC.out.2.trans (chk_drop hv))
        have HN := Lib.hid (needs_drop hv)
        obtain ⟨k, hk⟩ : ∃ k, takesV v = k := ⟨_, rfl⟩
        have hkb := takes_bd v
        rw [hk] at hkb
        have TK0 := fun w => r7takes_any v w
        simp only [hk] at TK0
        have TK := Lib.hid TK0
        have HK := Lib.hid hk
        have q3 : decide ((i : Int) < (L : Int)) = true := by simp; omega
        have q4 : (0 : Int) ≤ (i : Int) := by omega
        have q5 : (i : Int) < (L : Int) := by omega
        have q6 : IntKind.i64.wrap ((i : Int) + 1) = (i : Int) + 1 := IntWalk.i64_in _ (by omega)
        have q7 : IntKind.i64.wrap (n + k) = n + k := IntWalk.i64_in _ (by omega)
        have had : (ad.add i).block < w.heap.size := by rw [block_add]; exact hB
        have HV := Lib.hid hv
        clear TK0 hk hv
        go_wp2_with fail
        refine (TK.out _).mono ?_
        rintro e w2 ⟨rfl, h2⟩
        replace c1 := (h2.cell (by dsimp only; omega)).trans c1
        replace c2 := (h2.cell (by dsimp only; omega)).trans c2
        replace c3 := (h2.cell (by have := hb.size; omega)).trans c3
        have hb2 := hb.trans (h2.mono hb.size)
        have hs2 := Nat.le_trans hs h2.size
        clear h2
        by_cases hk0 : k < 0
        · have F := Lib.hid (check_bad2 (ps := ps) H5.out (HC.out.trans (if_pos (by rw [HK.out]; exact hk0))) (by decide))
          have q8 : decide (k < 0) = true := by simpa using hk0
          go_wp2
          go_ret
          exact ⟨by rw [F.out]; rfl, hb2⟩
        · have q8 : decide (k < 0) = false := by simpa using hk0
          have HC2 := Lib.hid (HC.out.trans (if_neg (by rw [HK.out]; exact hk0)))
          by_cases hv1 : v = 1
          · have q9 : (v != 1) = false := by simpa using hv1
            have F := Lib.hid (show chk 5 vs = chk v (vs.drop (i + 1)) from HC2.out.trans (if_neg (by rintro ⟨a, _⟩; exact a hv1)))
            clear hv1
            go_wp2
            go_roundw
            case rel => exact ⟨i + 1, n + k, v, by go_num, by go_num, by omega, ⟨by have := HNC.out.1; rw [HN.out, HK.out] at this; omega, F.out⟩, by omega, .inr ⟨by omega, HV.out⟩, c1, c2, hs2, hb2⟩
            case measure => simp [intOf]; omega
          · have q9 : (v != 1) = true := by simpa using hv1
            rcases hp1 with ⟨hi0, hp5⟩ | ⟨hi0, hpv⟩
            · have F := Lib.hid (check_bad2 (ps := ps) H5.out (HC2.out.trans (if_pos ⟨hv1, hp5⟩)) (by decide))
              have q10 : ((i : Int) == 0) = true := by simp; omega
              clear hp5 hi0
              go_wp2
              go_ret
              exact ⟨by rw [F.out]; rfl, hb2⟩
            · have q10 : ((i : Int) == 0) = false := by simp; omega
              obtain ⟨ad2, e2, _, c4⟩ := ints_at (HR.out.step hb2) hpv
              obtain rfl := Option.some.inj e2
              obtain ⟨j, hj⟩ : ∃ j, i - 1 = j := ⟨_, rfl⟩
              rw [hj] at c4
              have q11 : IntKind.i64.wrap ((i : Int) - 1) = (j : Int) := by rw [IntWalk.i64_in _ (by omega)]; omega
              have q12 : (0 : Int) ≤ (j : Int) := by omega
              have q13 : (j : Int) < (L : Int) := by omega
              clear e2 hpv hj
              by_cases hp5 : p = 5
              · have q14 : (p == 5) = true := by simpa using hp5
                have F := Lib.hid (check_bad2 (ps := ps) H5.out (HC2.out.trans (if_pos ⟨hv1, hp5⟩)) (by decide))
                clear hp5
                go_wp2
                go_ret
                exact ⟨by rw [F.out]; rfl, hb2⟩
              · have q14 : (p == 5) = false := by simpa using hp5
                have F := Lib.hid (show chk 5 vs = chk v (vs.drop (i + 1)) from HC2.out.trans (if_neg (by rintro ⟨_, a⟩; exact hp5 a)))
                go_wp2
                go_roundw
                case rel => exact ⟨i + 1, n + k, v, by go_num, by go_num, by omega, ⟨by have := HNC.out.1; rw [HN.out, HK.out] at this; omega, F.out⟩, by omega, .inr ⟨by omega, HV.out⟩, c1, c2, hs2, hb2⟩
                case measure => simp [intOf]; omega
      · obtain rfl : i = L := by omega
        have hd : vs.drop i = [] := by rw [← HL.out, List.drop_length]
        have hg := check_good (ps := ps) H5.out (by rw [HNC.out.2, hd]; rfl)
        have hnn : needs vs = n := by have := HNC.out.1; rw [hd, needs] at this; omega
        rw [hnn, HM.out] at hg
        have HG := Lib.hid hg
        have q3 : decide ((i : Int) < (i : Int)) = false := by simp
        clear hg hnn hd HNC
        by_cases hnM : n = (M : Int)
        · obtain ⟨fa, hfa⟩ : ∃ b, ps.any farV = b := ⟨_, rfl⟩
          have HG2 := Lib.hid (show pathE vs ps = if fa = true then 72 else 0 by rw [HG.out, if_neg (by simpa using hnM), hfa])
          have HFA := Lib.hid hfa
          have q4 : (n != (M : Int)) = false := by simpa using hnM
          obtain rfl : n = (M : Int) := hnM
          clear hfa
          go_wp2_with fail
          go_loopw [6] (fun s6 wx => ∃ j : Nat, s6 = .int .i64 j ∧ j ≤ M ∧ (ps.drop j).any farV = fa ∧ wx.cell? ⟨w.heap.size, 1, none⟩ = some (.slice B M cp) ∧ w.heap.size + 1 ≤ wx.heap.size ∧ Below w.heap.size w wx) (fun s6 _ => M - (intOf s6).toNat)
          case atStart => exact ⟨0, rfl, Nat.zero_le _, HFA.out, c2, hs, hb⟩
          case round =>
            clear c1 c2 hs hb
            obtain ⟨j, rfl, hj, hja, c2, hs, hb⟩ := hrel
            have HJ := Lib.hid hja
            clear hja
            by_cases hjt : j < M
            · obtain ⟨⟨x, y⟩, hpt⟩ : ∃ p, ps[j]? = some p := ⟨_, List.getElem?_eq_getElem (by rw [HM.out]; exact hjt)⟩
              obtain ⟨ad, rfl, hB, c3, c4⟩ := (HQ.out.step hb).at_ hpt
              dsimp only at c3 c4
              obtain ⟨b, hbb⟩ : ∃ b, farV (x, y) = b := ⟨_, rfl⟩
              have HD := Lib.hid (show (b || (ps.drop (j + 1)).any farV) = fa by rw [← HJ.out, drop_at hpt, List.any_cons, hbb])
              have FR0 := fun w => r7far_any x y w
              simp only [hbb] at FR0
              have FR := Lib.hid FR0
              have q5 : decide ((j : Int) < (M : Int)) = true := by simp; omega
              have q6 : (0 : Int) ≤ (j : Int) := by omega
              have q7 : (j : Int) < (M : Int) := by omega
              have q8 : IntKind.i64.wrap ((j : Int) + 1) = (j : Int) + 1 := IntWalk.i64_in _ (by omega)
              clear FR0 hpt hbb
              go_wp2_with fail
              refine (FR.out _).mono ?_
              rintro e w2 ⟨rfl, h2⟩
              replace c2 := (h2.cell (by dsimp only; omega)).trans c2
              have hb2 := hb.trans (h2.mono hb.size)
              have hs2 := Nat.le_trans hs h2.size
              clear h2
              cases b
              · have F := Lib.hid (show (ps.drop (j + 1)).any farV = fa from HD.out)
                go_wp2
                go_roundw
                case rel =>
                  exact ⟨j + 1, by go_num, by omega, F.out, c2, hs2, hb2⟩
                case measure => simp [intOf]; omega
              · have F := Lib.hid (show pathE vs ps = 72 by rw [HG2.out, ← HD.out]; rfl)
                go_wp2
                go_ret
                exact ⟨by rw [F.out]; rfl, hb2⟩
            · have F := Lib.hid (show pathE vs ps = 0 by
                rw [HG2.out, ← HJ.out, show j = M by omega, ← HM.out, List.drop_length]; rfl)
              have q5 : decide ((j : Int) < (M : Int)) = false := by simp; omega
              go_wp2
              go_ret
              exact ⟨by rw [F.out]; rfl, hb⟩
        · have F := Lib.hid (show pathE vs ps = 71 by rw [HG.out, if_pos hnM])
          have q4 : (n != (M : Int)) = true := by simpa using hnM
          go_wp2
          go_ret
          exact ⟨by rw [F.out]; rfl, hb⟩
end Go.Proofs.YtjjklchfcklahaaDoor
