/- Whether two paths are the same: the document's own answer; a path's two slices taken over. -/
import Derived.Test.YtjjklchfcklahaaDoorRef7C
namespace Go.Proofs.YtjjklchfcklahaaDoor
open Go.RowKit
set_option linter.unusedVariables false
set_option linter.unusedSimpArgs false
set_option maxHeartbeats 4000000
set_option maxRecDepth 100000

/-- A path as the program's struct. -/
abbrev PathA (A : Option Addr) (n c : Nat) (B : Option Addr) (m d : Nat) : Value := .agg #[.slice A n c, .slice B m d]
theorem drop_eq7 {α : Type} {a b : List α} {i : Nat} {x y : α} (ha : a[i]? = some x) (hb : b[i]? = some y) : (a.drop i = b.drop i) ↔ (x = y ∧ a.drop (i + 1) = b.drop (i + 1)) := by
  obtain ⟨h1, e1⟩ := List.getElem?_eq_some_iff.1 ha
  obtain ⟨h2, e2⟩ := List.getElem?_eq_some_iff.1 hb
  rw [List.drop_eq_getElem_cons h1, List.drop_eq_getElem_cons h2, e1, e2, List.cons.injEq]

theorem r7same_any (A B A' B' : Option Addr) (ca cb ca' cb' : Nat) (vs vs' : List Int) (ps ps' : List Pnt) (w : World) (h1 : Vals w w.heap.size A (vs.map iV)) (h2 : Cor w w.heap.size B ps) (h3 : Vals w w.heap.size A' (vs'.map iV)) (h4 : Cor w w.heap.size B' ps')
    (l1 : vs.length ≤ 9223372036854775807) (l2 : ps.length ≤ 9223372036854775807) :
    Calls Tryd.prog 14 #[PathA A vs.length ca B ps.length cb, PathA A' vs'.length ca' B' ps'.length cb'] w fun e w' => e = .returned (.bool (decide (vs = vs' ∧ ps = ps'))) ∧ Below w.heap.size w w' := by
  obtain ⟨D, hD⟩ : ∃ D, decide (vs = vs' ∧ ps = ps') = D := ⟨_, rfl⟩
  rw [hD]
  have HD := Lib.hid hD
  have H1 := Lib.hid h1
  have H2 := Lib.hid h2
  have H3 := Lib.hid h3
  have H4 := Lib.hid h4
  clear hD h1 h2 h3 h4
  obtain ⟨L, hL⟩ : ∃ L, vs.length = L := ⟨_, rfl⟩
  obtain ⟨M, hM⟩ : ∃ M, ps.length = M := ⟨_, rfl⟩
  obtain ⟨L', hL'⟩ : ∃ L, vs'.length = L := ⟨_, rfl⟩
  obtain ⟨M', hM'⟩ : ∃ M, ps'.length = M := ⟨_, rfl⟩
  rw [hL] at l1 ⊢
  rw [hM] at l2 ⊢
  rw [hL', hM']
  have HL := Lib.hid hL
  have HM := Lib.hid hM
  have HL' := Lib.hid hL'
  have HM' := Lib.hid hM'
  clear hL hM hL' hM'
  by_cases eL : L = L'
  · subst eL
    have q0 : ((L : Int) != (L : Int)) = false := by simp
    by_cases eM : M = M'
    · subst eM
      have q1 : ((M : Int) != (M : Int)) = false := by simp
      go_enter Tryd.func14, Tryd.ntmps14
      go_upto_region 1 with fail
      refine any_gen (fun z => (z.cell? ⟨w.heap.size, 0, none⟩ = some (.slice A L ca) ∧ z.cell? ⟨w.heap.size, 1, none⟩ = some (.slice B M cb) ∧ z.cell? ⟨w.heap.size + 1, 0, none⟩ = some (.slice A' L ca') ∧ z.cell? ⟨w.heap.size + 1, 1, none⟩ = some (.slice B' M cb')) ∧ w.heap.size + 1 + 1 ≤ z.heap.size ∧ Below w.heap.size w z) ⟨⟨by simp, by simp, by simp, by simp⟩, by simp, ((Below.refl _ _).alloc (Nat.le_refl _) _).alloc (by simp) _⟩ ?_
      rintro w1 ⟨⟨c1, c2, c3, c4⟩, hs, hb0⟩
      go_wp2
      go_loopw [5] (fun s5 wr => ∃ i : Nat, s5 = .int .i64 i ∧ i ≤ L ∧ decide (vs.drop i = vs'.drop i) = decide (vs = vs') ∧ Below w1.heap.size w1 wr) (fun s5 _ => L - (intOf s5).toNat)
      case atStart => exact ⟨0, rfl, Nat.zero_le _, rfl, Below.refl _ _⟩
      case round =>
        obtain ⟨i, rfl, hi, hd, hbr⟩ := hrel
        have HDI := Lib.hid hd
        clear hd
        have d1 := (hbr.cell (by (try dsimp only); omega)).trans c1
        have d2 := (hbr.cell (by (try dsimp only); omega)).trans c2
        have d3 := (hbr.cell (by (try dsimp only); omega)).trans c3
        have d4 := (hbr.cell (by (try dsimp only); omega)).trans c4
        have hbw := hb0.trans (hbr.mono (by omega))
        have hs1 := hbr.size
        by_cases hlt : i < L
        · obtain ⟨v, hv⟩ : ∃ v, vs[i]? = some v := ⟨_, List.getElem?_eq_getElem (by rw [HL.out]; exact hlt)⟩
          obtain ⟨v', hv'⟩ : ∃ v, vs'[i]? = some v := ⟨_, List.getElem?_eq_getElem (by rw [HL'.out]; exact hlt)⟩
          obtain ⟨ad, rfl, hB, e1⟩ := ints_at (H1.out.step hbw) hv
          obtain ⟨ad', rfl, hB', e2⟩ := ints_at (H3.out.step hbw) hv'
          obtain ⟨bb, hbb⟩ : ∃ bb, (v != v') = bb := ⟨_, rfl⟩
          have HN := Lib.hid (show decide (v = v' ∧ vs.drop (i + 1) = vs'.drop (i + 1)) = decide (vs = vs') by rw [← HDI.out, decide_eq_decide]; exact (drop_eq7 hv hv').symm)
          have HBB := Lib.hid hbb
          have p1 : decide ((i : Int) < (L : Int)) = true := by simp; omega
          have p2 : (0 : Int) ≤ (i : Int) := by omega
          have p3 : (i : Int) < (L : Int) := by omega
          have p4 : IntKind.i64.wrap ((i : Int) + 1) = (i : Int) + 1 := IntWalk.i64_in _ (by omega)
          clear hv hv'
          go_wp2_with fail
          go_quiet (fail)
          cases bb
          · have hvv : v = v' := by have := HBB.out; simpa using this
            have F := Lib.hid (show decide (vs.drop (i + 1) = vs'.drop (i + 1)) = decide (vs = vs') by rw [← HN.out, decide_eq_decide]; exact ⟨fun h => ⟨hvv, h⟩, fun h => h.2⟩)
            clear hvv
            go_wp2
            go_roundw
            case rel => exact ⟨i + 1, by go_num, by omega, F.out, below_dN hbr _⟩
            case measure => simp [intOf]; omega
          · have F := Lib.hid (show false = D by
              have hvv : ¬ v = v' := by have := HBB.out; simpa using this
              have hne : decide (vs = vs') = false := by rw [← HN.out]; simp [hvv]
              rw [← HD.out]; symm; simp only [decide_eq_false_iff_not] at hne ⊢; exact fun h => hne h.1)
            go_wp2
            go_ret
            exact ⟨by rw [← F.out]; rfl, below_dN hbw _⟩
        · have hvs : vs = vs' := by
            have h := HDI.out
            rw [show i = L by omega] at h
            conv at h => lhs; rw [show vs.drop L = [] by rw [← HL.out, List.drop_length], show vs'.drop L = [] by rw [← HL'.out, List.drop_length]]
            simpa using h.symm
          have HVS := Lib.hid hvs
          have p1 : decide ((i : Int) < (L : Int)) = false := by simp; omega
          clear hvs c1 c2 c3 c4
          go_wp2
          go_loopw [6] (fun s6 wx => ∃ j : Nat, s6 = .int .i64 j ∧ j ≤ M ∧ decide (ps.drop j = ps'.drop j) = decide (ps = ps') ∧ Below wr.heap.size wr wx) (fun s6 _ => M - (intOf s6).toNat)
          case atStart => exact ⟨0, rfl, Nat.zero_le _, rfl, Below.refl _ _⟩
          case round =>
            obtain ⟨j, rfl, hj, hd, hbx⟩ := hrel
            have HDJ := Lib.hid hd
            clear hd
            have k2 := (hbx.cell (by (try dsimp only); omega)).trans d2
            have k4 := (hbx.cell (by (try dsimp only); omega)).trans d4
            have hbv := hbw.trans (hbx.mono (by omega))
            clear d1 d2 d3 d4
            by_cases hjt : j < M
            · obtain ⟨⟨x, y⟩, hv⟩ : ∃ v, ps[j]? = some v := ⟨_, List.getElem?_eq_getElem (by rw [HM.out]; exact hjt)⟩
              obtain ⟨⟨u, v⟩, hv'⟩ : ∃ v, ps'[j]? = some v := ⟨_, List.getElem?_eq_getElem (by rw [HM'.out]; exact hjt)⟩
              obtain ⟨ad, rfl, hB, e1, e2⟩ := (H2.out.step hbv).at_ hv
              obtain ⟨ad', rfl, hB', e3, e4⟩ := (H4.out.step hbv).at_ hv'
              dsimp only at e1 e2 e3 e4
              obtain ⟨bb, hbb⟩ : ∃ bb, decide ((x, y) = (u, v)) = bb := ⟨_, rfl⟩
              have NE := fun w => ne_pt7 x y u v bb hbb w
              have HN := Lib.hid (show (bb && decide (ps.drop (j + 1) = ps'.drop (j + 1))) = decide (ps = ps') by
                rw [← HDJ.out, ← hbb, ← Bool.decide_and, decide_eq_decide]; exact (drop_eq7 hv hv').symm)
              have p5 : decide ((j : Int) < (M : Int)) = true := by simp; omega
              have p6 : (0 : Int) ≤ (j : Int) := by omega
              have p7 : (j : Int) < (M : Int) := by omega
              have p8 : IntKind.i64.wrap ((j : Int) + 1) = (j : Int) + 1 := IntWalk.i64_in _ (by omega)
              clear hv hv' hbb
              go_wp2_with fail
              go_quiet (fail)
              cases bb
              · have F := Lib.hid (show false = D by
                  have hne : decide (ps = ps') = false := HN.out.symm
                  rw [← HD.out]; symm; simp only [decide_eq_false_iff_not] at hne ⊢; exact fun h => hne h.2)
                go_wp2
                go_ret
                exact ⟨by rw [← F.out]; rfl, below_dN hbv _⟩
              · have F := Lib.hid (show decide (ps.drop (j + 1) = ps'.drop (j + 1)) = decide (ps = ps') from HN.out)
                go_wp2
                go_roundw
                case rel => exact ⟨j + 1, by go_num, by omega, F.out, below_dN hbx _⟩
                case measure => simp [intOf]; omega
            · have F := Lib.hid (show true = D by
                have h := HDJ.out
                rw [show j = M by omega] at h
                conv at h => lhs; rw [show ps.drop M = [] by rw [← HM.out, List.drop_length], show ps'.drop M = [] by rw [← HM'.out, List.drop_length]]
                rw [← HD.out]; symm
                rw [decide_eq_true_eq]
                exact ⟨HVS.out, by simpa using h.symm⟩)
              have p5 : decide ((j : Int) < (M : Int)) = false := by simp; omega
              go_wp2
              go_ret
              exact ⟨by rw [← F.out]; rfl, hbv⟩
    · have q1 : ((M : Int) != (M' : Int)) = true := by simp; omega
      have F := Lib.hid (show false = D by
        rw [← HD.out]; symm; simp only [decide_eq_false_iff_not]
        rintro ⟨_, h⟩; apply eM; rw [← HM.out, h, HM'.out])
      go_enter Tryd.func14, Tryd.ntmps14
      go_wp2
      go_ret
      exact ⟨by rw [← F.out]; rfl, ((Below.refl _ _).alloc (Nat.le_refl _) _).alloc (by simp) _⟩
  · have q0 : ((L : Int) != (L' : Int)) = true := by simp; omega
    have F := Lib.hid (show false = D by
      rw [← HD.out]; symm; simp only [decide_eq_false_iff_not]
      rintro ⟨h, _⟩; apply eL; rw [← HL.out, h, HL'.out])
    go_enter Tryd.func14, Tryd.ntmps14
    go_wp2
    go_ret
    exact ⟨by rw [← F.out]; rfl, ((Below.refl _ _).alloc (Nat.le_refl _) _).alloc (by simp) _⟩
end Go.Proofs.YtjjklchfcklahaaDoor
