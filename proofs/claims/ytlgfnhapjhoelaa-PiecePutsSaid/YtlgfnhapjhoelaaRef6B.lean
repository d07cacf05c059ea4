/- What the document's own layer 6 answers of corners: Has. -/
import Derived.Test.YtlgfnhapjhoelaaRef6
namespace Go.Proofs.Ytlgfnhapjhoelaa
open Go.RowKit
set_option linter.unusedVariables false
set_option linter.unusedSimpArgs false
set_option maxHeartbeats 8000000
set_option maxRecDepth 100000

theorem r6has_any (A : Option Addr) (cap : Nat) (l : List Pnt) (a c : Int) (w : World) (hr : Cor w w.heap.size A l) (hl : l.length < 4611686018427387904) (hn : allNear l = true) (ha : -1073741824 ≤ a ∧ a ≤ 1073741824) (hc : -1073741824 ≤ c ∧ c ≤ 1073741824) :
    Calls Try.prog 18 #[.slice A l.length cap, P2 a c] w fun e w' => e = .returned (.bool (hasV l (a, c))) ∧ Below w.heap.size w w' := by
  have CV0 := fun w hr => r6convex_any A cap l w hr hl hn
  have HR := Lib.hid hr
  have HN := Lib.hid hn
  have HAC := Lib.hid (And.intro ha hc)
  clear hr hn ha hc
  obtain ⟨L, hL⟩ : ∃ L, l.length = L := ⟨_, rfl⟩
  obtain ⟨o, ho⟩ : ∃ o, convexV l = o := ⟨_, rfl⟩
  rw [hL] at hl CV0 ⊢
  simp only [ho] at CV0
  have CV := Lib.hid CV0
  have HL := Lib.hid hL
  have HO := Lib.hid ho
  clear hL ho CV0
  cases o
  · have F := Lib.hid (show hasV l (a, c) = false by unfold hasV; rw [HO.out]; rfl)
    go_enter Try.func18, Try.ntmps18
    go_wp2_with fail
    refine (CV.out _ ((HR.out.step ((Below.refl _ _).alloc (Nat.le_refl _) _)).more (by simp))).mono ?_
    rintro e w1 ⟨rfl, h1⟩
    have z1 := h1.size
    simp at z1
    have hs : w.heap.size + 1 ≤ w1.heap.size := by omega
    have c1 : w1.cell? ⟨w.heap.size, 0, none⟩ = some (.int .i64 (a)) := (h1.cell (p := ⟨w.heap.size, 0, none⟩) (by simp; try omega)).trans (by first | simp | simp [go_sem])
    have c2 : w1.cell? ⟨w.heap.size, 1, none⟩ = some (.int .i64 (c)) := (h1.cell (p := ⟨w.heap.size, 1, none⟩) (by simp; try omega)).trans (by first | simp | simp [go_sem])
    have hb0 : Below w.heap.size w w1 := ((Below.refl _ _).alloc (by simp; try omega) _).trans (h1.mono (by simp; try omega))
    clear h1 z1
    go_wp2
    go_ret
    exact ⟨by rw [F.out]; rfl, hb0⟩
  · have HG := Lib.hid (show hasV l (a, c) = (edges l).all (leftOf1 (a, c)) by unfold hasV hasAll; rw [HO.out]; rfl)
    go_enter Try.func18, Try.ntmps18
    go_wp2_with fail
    refine (CV.out _ ((HR.out.step ((Below.refl _ _).alloc (Nat.le_refl _) _)).more (by simp))).mono ?_
    rintro e w1 ⟨rfl, h1⟩
    have z1 := h1.size
    simp at z1
    have hs : w.heap.size + 1 ≤ w1.heap.size := by omega
    have c1 : w1.cell? ⟨w.heap.size, 0, none⟩ = some (.int .i64 (a)) := (h1.cell (p := ⟨w.heap.size, 0, none⟩) (by simp; try omega)).trans (by first | simp | simp [go_sem])
    have c2 : w1.cell? ⟨w.heap.size, 1, none⟩ = some (.int .i64 (c)) := (h1.cell (p := ⟨w.heap.size, 1, none⟩) (by simp; try omega)).trans (by first | simp | simp [go_sem])
    have hb0 : Below w.heap.size w w1 := ((Below.refl _ _).alloc (by simp; try omega) _).trans (h1.mono (by simp; try omega))
    clear h1 z1
    go_wp2
    have hs1 := hs
    go_loopw [5] (fun s5 wr => ∃ k : Nat, s5 = .int .i64 k ∧ k ≤ L ∧ ((edges l).take k).all (leftOf1 (a, c)) = true ∧ Below w1.heap.size w1 wr) (fun s5 _ => L - (intOf s5).toNat)
    case atStart => exact ⟨0, rfl, Nat.zero_le _, rfl, Below.refl _ _⟩
    case round =>
      obtain ⟨k, rfl, hk, hi, hbV⟩ := hrel
      have hbW := hb0.trans (hbV.mono hb0.size)
      by_cases hlt : k < L
      · have HI := Lib.hid hi
        clear hi
        obtain ⟨j, hj⟩ : ∃ j, (k + 1) % L = j := ⟨_, rfl⟩
        have hjL : j < L := by rw [← hj]; exact Nat.mod_lt _ (by omega)
        obtain ⟨⟨x, y⟩, hp⟩ : ∃ p, l[k]? = some p := ⟨_, List.getElem?_eq_getElem (by rw [HL.out]; exact hlt)⟩
        obtain ⟨⟨u, v⟩, hq⟩ : ∃ p, l[j]? = some p := ⟨_, List.getElem?_eq_getElem (by rw [HL.out]; exact hjL)⟩
        obtain ⟨hx, hy⟩ := near_at HN.out hp
        obtain ⟨hu, hv⟩ := near_at HN.out hq
        have he := edge_at hp (by rw [HL.out, hj]; exact hq)
        have e3 := next_num k L hlt hl
        rw [hj] at e3
        have e4 : IntKind.i64.wrap ((k : Int) + 1) = (k : Int) + 1 := IntWalk.i64_in _ (by omega)
        have e5 : IntKind.i64.wrap (j : Int) = (j : Int) := IntWalk.i64_in _ (by omega)
        have e6 : Int.tmod ((k : Int) + 1) (L : Int) = (j : Int) := by rw [← e4]; exact e3
        have q1 : decide ((k : Int) < (L : Int)) = true := by simp; omega
        have q2 : (0 : Int) ≤ (k : Int) := by omega
        have q3 : (k : Int) < (L : Int) := by omega
        have q4 : (0 : Int) ≤ (j : Int) := by omega
        have q5 : (j : Int) < (L : Int) := by omega
        have q6 : ¬ (L : Int) = 0 := by omega
        have q8 : ¬ L = 0 := by omega
        have q7 : ((L : Int) == 0) = false := by simp; omega
        obtain ⟨ad, rfl, hB, g1, g2⟩ := (HR.out.step hbW).at_ hp
        obtain ⟨ad2, e2, _, g3, g4⟩ := (HR.out.step hbW).at_ hq
        obtain rfl := Option.some.inj e2
        dsimp only at g1 g2 g3 g4
        have hk1 : (ad.add (k * 2)).block < w.heap.size := by rw [block_add]; exact hB
        have hk3 : (ad.add (j * 2)).block < w.heap.size := by rw [block_add]; exact hB
        have hz := hbW.size
        have c5 := (hbV.cell (p := ⟨w.heap.size, 0, none⟩) (by dsimp only; omega)).trans c1
        have c6 := (hbV.cell (p := ⟨w.heap.size, 1, none⟩) (by dsimp only; omega)).trans c2
        clear c1 c2
        have c1 := g1
        have c2 := g2
        have c3 := g3
        have c4 := g4
        clear g1 g2 g3 g4
        have hv1 := hbV.size
        obtain ⟨s, hs0⟩ : ∃ s, sideV x y u v a c = s := ⟨_, rfl⟩
        have HS := Lib.hid (left_side (a, c) x y u v s hs0)
        have HE := Lib.hid he
        have SD0 := fun w => r5side_any x y u v a c w hx hy hu hv HAC.out.1 HAC.out.2
        simp only [hs0] at SD0
        have SD := Lib.hid SD0
        clear SD0 hp hq hx hy hu hv he hs0 hj e3
        by_cases hsn : s < 0
        · have p5 : decide (s < 0) = true := by simpa using hsn
          have F := Lib.hid (show hasV l (a, c) = false by rw [HG.out]; exact all_not (edges l) _ (List.mem_of_getElem? HE.out) (by rw [HS.out, p5]; rfl))
          clear hsn
          go_upto_region 6 with fail
          go_region_held3 (fun w' => w'.cell? (ad.add (k * 2)) = some (.int .i64 (x)) ∧ w'.cell? ⟨(ad.add (k * 2)).block, (ad.add (k * 2)).off + 1, none⟩ = some (.int .i64 (y)) ∧ w'.cell? (ad.add (j * 2)) = some (.int .i64 (u)) ∧ w'.cell? ⟨(ad.add (j * 2)).block, (ad.add (j * 2)).off + 1, none⟩ = some (.int .i64 (v)) ∧ w'.cell? ⟨w.heap.size, 0, none⟩ = some (.int .i64 (a)) ∧ w'.cell? ⟨w.heap.size, 1, none⟩ = some (.int .i64 (c)) ∧ Below wr.heap.size wr w') ((first | assumption | exact ⟨by simp [*], by simp [*], by simp [*], by simp [*], by simp [*], by simp [*], (Below.refl _ _).drew⟩ | exact keep6 ‹_› hb (by (try dsimp only); omega) (by (try dsimp only); omega) (by (try dsimp only); omega) (by (try dsimp only); omega) (by (try dsimp only); omega) (by (try dsimp only); omega) | exact keepA6 ‹_› _ (by (try dsimp only); omega) (by (try dsimp only); omega) (by (try dsimp only); omega) (by (try dsimp only); omega) (by (try dsimp only); omega) (by (try dsimp only); omega) | exact keepS6 (keepS6 ‹_› _ _ (by (try dsimp only); omega) (by (try dsimp only); omega) (by (try dsimp only); omega) (by (try dsimp only); omega) (by (try dsimp only); omega) (by (try dsimp only); omega) (by (try dsimp only); omega)) _ _ (by (try dsimp only); omega) (by (try dsimp only); omega) (by (try dsimp only); omega) (by (try dsimp only); omega) (by (try dsimp only); omega) (by (try dsimp only); omega) (by (try dsimp only); omega))) ((first | (go_at_call 26; with_reducible refine (SD.out _).mono ?_; rintro e w' ⟨rfl, hb⟩)))
          all_goals
            have hF := belK6 ‹_ ∧ _ ∧ _ ∧ _ ∧ _ ∧ _ ∧ Below wr.heap.size wr _›
            go_wp2
            go_ret
            exact ⟨by rw [F.out]; rfl, hbW.trans (hF.mono hz)⟩
        · have p5 : decide (s < 0) = false := by simpa using hsn
          have F := Lib.hid (all_take (edges l) (leftOf1 (a, c)) k HE.out HI.out (by rw [HS.out, p5]; rfl))
          clear hsn
          go_upto_region 6 with fail
          go_region_held3 (fun w' => w'.cell? (ad.add (k * 2)) = some (.int .i64 (x)) ∧ w'.cell? ⟨(ad.add (k * 2)).block, (ad.add (k * 2)).off + 1, none⟩ = some (.int .i64 (y)) ∧ w'.cell? (ad.add (j * 2)) = some (.int .i64 (u)) ∧ w'.cell? ⟨(ad.add (j * 2)).block, (ad.add (j * 2)).off + 1, none⟩ = some (.int .i64 (v)) ∧ w'.cell? ⟨w.heap.size, 0, none⟩ = some (.int .i64 (a)) ∧ w'.cell? ⟨w.heap.size, 1, none⟩ = some (.int .i64 (c)) ∧ Below wr.heap.size wr w') ((first | assumption | exact ⟨by simp [*], by simp [*], by simp [*], by simp [*], by simp [*], by simp [*], (Below.refl _ _).drew⟩ | exact keep6 ‹_› hb (by (try dsimp only); omega) (by (try dsimp only); omega) (by (try dsimp only); omega) (by (try dsimp only); omega) (by (try dsimp only); omega) (by (try dsimp only); omega) | exact keepA6 ‹_› _ (by (try dsimp only); omega) (by (try dsimp only); omega) (by (try dsimp only); omega) (by (try dsimp only); omega) (by (try dsimp only); omega) (by (try dsimp only); omega) | exact keepS6 (keepS6 ‹_› _ _ (by (try dsimp only); omega) (by (try dsimp only); omega) (by (try dsimp only); omega) (by (try dsimp only); omega) (by (try dsimp only); omega) (by (try dsimp only); omega) (by (try dsimp only); omega)) _ _ (by (try dsimp only); omega) (by (try dsimp only); omega) (by (try dsimp only); omega) (by (try dsimp only); omega) (by (try dsimp only); omega) (by (try dsimp only); omega) (by (try dsimp only); omega))) ((first | (go_at_call 26; with_reducible refine (SD.out _).mono ?_; rintro e w' ⟨rfl, hb⟩)))
          all_goals
            have hF := belK6 ‹_ ∧ _ ∧ _ ∧ _ ∧ _ ∧ _ ∧ Below wr.heap.size wr _›
            go_wp2
            go_roundw
            case rel => exact ⟨k + 1, by go_num, by omega, F.out, hbV.trans (hF.mono hv1)⟩
            case measure => simp [intOf]; omega
      · have F := Lib.hid (show hasV l (a, c) = true by rw [HG.out, ← hi, show k = L by omega, ← HL.out, ← edges_len, List.take_length])
        have q3 : decide ((k : Int) < (L : Int)) = false := by simp; omega
        clear hi
        go_wp2
        go_ret
        exact ⟨by rw [F.out]; rfl, hbW⟩
end Go.Proofs.Ytlgfnhapjhoelaa
