/- Whether two lists of subpaths are the same: the document's own answer. -/
import Derived.Test.YtalgmnnimfenpaaDoorSegs
import Derived.Test.YtalgmnnimfenpaaDoorRef7D
namespace Go.Proofs.YtalgmnnimfenpaaDoor
open Go.RowKit
set_option linter.unusedVariables false
set_option linter.unusedSimpArgs false
set_option maxHeartbeats 4000000
set_option maxRecDepth 100000

theorem pnt_beq (a b c d : Int) : (a == c && b == d) = decide (((a, b) : Pnt) = (c, d)) := by
  by_cases h1 : a = c <;> by_cases h2 : b = d <;> simp [h1, h2]
theorem seg_beq (g g' : SegV) : (((g.1.1.1 == g'.1.1.1 && g.1.1.2 == g'.1.1.2) && ((g.1.2.1.1 == g'.1.2.1.1 && g.1.2.1.2 == g'.1.2.1.2) && ((g.1.2.2.1.1 == g'.1.2.2.1.1 && g.1.2.2.1.2 == g'.1.2.2.1.2) && (g.1.2.2.2.1 == g'.1.2.2.2.1 && g.1.2.2.2.2 == g'.1.2.2.2.2)))) && g.2 == g'.2) = decide (g = g') := by
  obtain ⟨⟨⟨a, b⟩, ⟨c, d⟩, ⟨e, f⟩, ⟨h, k⟩⟩, n⟩ := g
  obtain ⟨⟨⟨a', b'⟩, ⟨c', d'⟩, ⟨e', f'⟩, ⟨h', k'⟩⟩, n'⟩ := g'
  dsimp only
  rw [pnt_beq, pnt_beq, pnt_beq, pnt_beq]
  by_cases h1 : ((a, b) : Pnt) = (a', b') <;> by_cases h2 : ((c, d) : Pnt) = (c', d') <;> by_cases h3 : ((e, f) : Pnt) = (e', f') <;> by_cases h4 : ((h, k) : Pnt) = (h', k') <;> by_cases h5 : n = n' <;> simp_all
theorem sub_eq (s s' : Pnt) (l l' : List SegV) (c c' : Bool) : (((s, l, c) : SubV) = (s', l', c')) ↔ (s = s' ∧ c = c' ∧ l = l') := by
  simp only [Prod.mk.injEq]
  exact ⟨fun ⟨a, b, c⟩ => ⟨a, c, b⟩, fun ⟨a, b, c⟩ => ⟨a, c, b⟩⟩

theorem r7samesubs_any (A A' : Option Addr) (ca ca' : Nat) (l l' : List SubV) (w : World) (h1 : Subs w w.heap.size A l) (h2 : Subs w w.heap.size A' l') (b1 : l.length ≤ 9223372036854775807) (b2 : ∀ x ∈ l, x.2.1.length ≤ 9223372036854775807) :
    Calls Tryd.prog 18 #[.slice A l.length ca, .slice A' l'.length ca'] w fun e w' => e = .returned (.bool (decide (l = l'))) ∧ Below w.heap.size w w' := by
  obtain ⟨D, hD⟩ : ∃ D, decide (l = l') = D := ⟨_, rfl⟩
  rw [hD]
  have HD := Lib.hid hD
  have H1 := Lib.hid h1
  have H2 := Lib.hid h2
  have B2 := Lib.hid b2
  clear hD h1 h2 b2
  obtain ⟨L, hL⟩ : ∃ L, l.length = L := ⟨_, rfl⟩
  obtain ⟨L', hL'⟩ : ∃ L, l'.length = L := ⟨_, rfl⟩
  rw [hL] at b1 ⊢
  rw [hL']
  have HL := Lib.hid hL
  have HL' := Lib.hid hL'
  clear hL hL'
  by_cases eL : L = L'
  · subst eL
    have q0 : ((L : Int) != (L : Int)) = false := by simp
    go_enter Tryd.func18, Tryd.ntmps18
    go_wp2
    go_loopw [5] (fun s5 wr => ∃ i : Nat, s5 = .int .i64 i ∧ i ≤ L ∧ decide (l.drop i = l'.drop i) = D ∧ Below w.heap.size w wr) (fun s5 _ => L - (intOf s5).toNat)
    case atStart => exact ⟨0, rfl, Nat.zero_le _, HD.out, Below.refl _ _⟩
    case round =>
      obtain ⟨i, rfl, hi, hd, hbr⟩ := hrel
      have HDI := Lib.hid hd
      clear hd
      have hs1 := hbr.size
      by_cases hlt : i < L
      · obtain ⟨⟨⟨sx, sy⟩, sg, cl⟩, hv⟩ : ∃ v, l[i]? = some v := ⟨_, List.getElem?_eq_getElem (by rw [HL.out]; exact hlt)⟩
        obtain ⟨⟨⟨sx', sy'⟩, sg', cl'⟩, hv'⟩ : ∃ v, l'[i]? = some v := ⟨_, List.getElem?_eq_getElem (by rw [HL'.out]; exact hlt)⟩
        obtain ⟨ad, rfl, hB, e0, e1, ⟨Ag, cg, e2, hsg⟩, e3⟩ := (H1.out.step hbr).at_ hv
        obtain ⟨ad', rfl, hB', k0, k1, ⟨Ag', cg', k2, hsg'⟩, k3⟩ := (H2.out.step hbr).at_ hv'
        have hm := B2.out _ (List.mem_of_getElem? hv)
        dsimp only [nx] at e0 e1 e2 e3 k0 k1 k2 k3 hsg hsg' hm
        have HSG := Lib.hid hsg
        have HSG' := Lib.hid hsg'
        have HN := Lib.hid (show decide (((sx, sy) = (sx', sy') ∧ cl = cl' ∧ sg = sg') ∧ l.drop (i + 1) = l'.drop (i + 1)) = D by
          rw [← HDI.out, decide_eq_decide, ← sub_eq]; exact (drop_eq7 hv hv').symm)
        obtain ⟨m, hmm⟩ : ∃ m, sg.length = m := ⟨_, rfl⟩
        obtain ⟨m', hmm'⟩ : ∃ m, sg'.length = m := ⟨_, rfl⟩
        rw [hmm] at e2 hm
        rw [hmm'] at k2
        have HM := Lib.hid hmm
        have HM' := Lib.hid hmm'
        have hBa : (ad.add (i * 4)).block < w.heap.size := by rw [block_add]; exact hB
        have hBa' : (ad'.add (i * 4)).block < w.heap.size := by rw [block_add]; exact hB'
        have p1 : decide ((i : Int) < (L : Int)) = true := by simp; omega
        have p2 : (0 : Int) ≤ (i : Int) := by omega
        have p3 : (i : Int) < (L : Int) := by omega
        have p4 : IntKind.i64.wrap ((i : Int) + 1) = (i : Int) + 1 := IntWalk.i64_in _ (by omega)
        clear hv hv' hsg hsg' hmm hmm'
        obtain ⟨bs, hbs⟩ : ∃ b, decide ((sx, sy) = (sx', sy')) = b := ⟨_, rfl⟩
        have NE := fun w => ne_pt7 sx sy sx' sy' bs hbs w
        obtain ⟨bc, hbc⟩ : ∃ b, (!(cl == cl')) = b := ⟨_, rfl⟩
        have hbc2 : (cl != cl') = bc := hbc
        obtain ⟨bm, hbm⟩ : ∃ b, ((m : Int) != (m' : Int)) = b := ⟨_, rfl⟩
        have HBS := Lib.hid hbs
        have HBC := Lib.hid hbc
        have HBM := Lib.hid hbm
        clear hbs
        by_cases hall : bs = true ∧ bc = false ∧ bm = false
        · obtain ⟨rfl, rfl, rfl⟩ := hall
          have hmeq : m = m' := by have := HBM.out; simp at this; omega
          subst hmeq
          have HST := Lib.hid (show (sx, sy) = (sx', sy') from of_decide_eq_true HBS.out)
          have HCL := Lib.hid (show cl = cl' by have := HBC.out; simpa using this)
          clear HBS HBC HBM
          go_wp2_with fail
          go_quiet (fail)
          go_wp2
          go_loopw [6] (fun s6 wx => ∃ j : Nat, s6 = .int .i64 j ∧ j ≤ m ∧ decide (sg.drop j = sg'.drop j) = decide (sg = sg') ∧ Below wr.heap.size wr wx) (fun s6 _ => m - (intOf s6).toNat)
          case atStart => exact ⟨0, rfl, Nat.zero_le _, rfl, below_dN (Below.refl _ _) _⟩
          case round =>
            obtain ⟨j, rfl, hj, hd, hbx⟩ := hrel
            have HDJ := Lib.hid hd
            clear hd
            have f2 := (hbx.cell (p := nx (ad.add (i * 4)) 2) (show (ad.add (i * 4)).block < _ by omega)).trans e2
            have g2 := (hbx.cell (p := nx (ad'.add (i * 4)) 2) (show (ad'.add (i * 4)).block < _ by omega)).trans k2
            dsimp only [nx] at f2 g2
            have hbv := hbr.trans (hbx.mono hs1)
            by_cases hjt : j < m
            · obtain ⟨g, hv⟩ : ∃ v, sg[j]? = some v := ⟨_, List.getElem?_eq_getElem (by rw [HM.out]; exact hjt)⟩
              obtain ⟨g', hv'⟩ : ∃ v, sg'[j]? = some v := ⟨_, List.getElem?_eq_getElem (by rw [HM'.out]; exact hjt)⟩
              obtain ⟨ag, rfl, hBg, t0, t1, t2, t3, t4, t5, t6, t7, t8⟩ := (HSG.out.step (hbx.mono hs1)).at_ hv
              obtain ⟨ag', rfl, hBg', r0, r1, r2, r3, r4, r5, r6, r7, r8⟩ := (HSG'.out.step (hbx.mono hs1)).at_ hv'
              dsimp only [nx] at t1 t2 t3 t4 t5 t6 t7 t8 r1 r2 r3 r4 r5 r6 r7 r8
              have NE9 := fun w => ne_seg g.1.1.1 g.1.1.2 g.1.2.1.1 g.1.2.1.2 g.1.2.2.1.1 g.1.2.2.1.2 g.1.2.2.2.1 g.1.2.2.2.2 g.2 g'.1.1.1 g'.1.1.2 g'.1.2.1.1 g'.1.2.1.2 g'.1.2.2.1.1 g'.1.2.2.1.2 g'.1.2.2.2.1 g'.1.2.2.2.2 g'.2 w
              obtain ⟨bb, hbb⟩ : ∃ b, decide (g = g') = b := ⟨_, rfl⟩
              simp only [seg_beq, hbb] at NE9
              have HJ := Lib.hid (show (bb && decide (sg.drop (j + 1) = sg'.drop (j + 1))) = decide (sg = sg') by
                rw [← HDJ.out, ← hbb, ← Bool.decide_and, decide_eq_decide]; exact (drop_eq7 hv hv').symm)
              have p5 : decide ((j : Int) < (m : Int)) = true := by simp; omega
              have p6 : (0 : Int) ≤ (j : Int) := by omega
              have p7 : (j : Int) < (m : Int) := by omega
              have p8 : IntKind.i64.wrap ((j : Int) + 1) = (j : Int) + 1 := IntWalk.i64_in _ (by omega)
              clear hv hv' hbb
              go_wp2_with fail
              go_quiet (fail)
              cases bb
              · have F := Lib.hid (show false = D by
                  have hne : decide (sg = sg') = false := HJ.out.symm
                  rw [← HN.out]; symm; simp only [decide_eq_false_iff_not] at hne ⊢; exact fun h => hne h.1.2.2)
                go_wp2
                go_ret
                exact ⟨by rw [← F.out]; rfl, below_dN hbv _⟩
              · have F := Lib.hid (show decide (sg.drop (j + 1) = sg'.drop (j + 1)) = decide (sg = sg') from HJ.out)
                go_wp2
                go_roundw
                case rel => exact ⟨j + 1, by go_num, by omega, F.out, below_dN hbx _⟩
                case measure => simp [intOf]; omega
            · have F := Lib.hid (show decide (l.drop (i + 1) = l'.drop (i + 1)) = D by
                have h := HDJ.out
                rw [show j = m by omega] at h
                conv at h => lhs; rw [show sg.drop m = [] by rw [← HM.out, List.drop_length], show sg'.drop m = [] by rw [← HM'.out, List.drop_length]]
                have hsg : sg = sg' := by simpa using h.symm
                rw [← HN.out, decide_eq_decide]
                exact ⟨fun h => ⟨⟨HST.out, HCL.out, hsg⟩, h⟩, fun h => h.2⟩)
              have p5 : decide ((j : Int) < (m : Int)) = false := by simp; omega
              go_wp2
              go_roundw
              case rel => exact ⟨i + 1, by go_num, by omega, F.out, hbv⟩
              case measure => simp [intOf]; omega
        · have F := Lib.hid (show false = D by
            rw [← HN.out]; symm; simp only [decide_eq_false_iff_not]
            rintro ⟨⟨h1, h2, h3⟩, _⟩
            apply hall
            refine ⟨by rw [← HBS.out]; exact decide_eq_true h1, by rw [← HBC.out, h2]; simp, ?_⟩
            rw [← HBM.out, ← HM.out, ← HM'.out, h3]; simp)
          have HALL := Lib.hid hall
          clear hall HBS HBC HBM
          cases bs
          · go_wp2_with fail
            go_quiet (fail)
            go_wp2
            go_ret
            exact ⟨by rw [← F.out]; rfl, below_dN hbr _⟩
          · cases bc
            · cases bm
              · exact absurd ⟨rfl, rfl, rfl⟩ HALL.out
              · go_wp2_with fail
                go_quiet (fail)
                go_wp2
                go_ret
                exact ⟨by rw [← F.out]; rfl, below_dN hbr _⟩
            · go_wp2_with fail
              go_quiet (fail)
              go_wp2
              go_ret
              exact ⟨by rw [← F.out]; rfl, below_dN hbr _⟩
      · have F := Lib.hid (show true = D by
          have h := HDI.out
          rw [show i = L by omega] at h
          conv at h => lhs; rw [show l.drop L = [] by rw [← HL.out, List.drop_length], show l'.drop L = [] by rw [← HL'.out, List.drop_length]]
          simpa using h)
        have p1 : decide ((i : Int) < (L : Int)) = false := by simp; omega
        go_wp2
        go_ret
        exact ⟨by rw [← F.out]; rfl, hbr⟩
  · have q0 : ((L : Int) != (L' : Int)) = true := by simp; omega
    have F := Lib.hid (show false = D by
      rw [← HD.out]; symm; simp only [decide_eq_false_iff_not]
      intro h; apply eL; rw [← HL.out, h, HL'.out])
    go_enter Tryd.func18, Tryd.ntmps18
    go_wp2
    go_ret
    exact ⟨by rw [← F.out]; rfl, Below.refl _ _⟩
end Go.Proofs.YtalgmnnimfenpaaDoor
