/- The walk of PiecePuts: what is put is convex, has all its corners, and lies in its box. -/
import Derived.Test.YtlgfnhapjhoelaaLaw6F
namespace Go.Proofs.Ytlgfnhapjhoelaa
open Go.RowKit
set_option linter.unusedVariables false
set_option linter.unusedSimpArgs false
set_option maxHeartbeats 4000000
set_option maxRecDepth 100000

theorem put_none {l : List Pnt} (h : putL l = []) : convexV l = false := by
  unfold putL at h
  split at h
  · cases h
  · rename_i h1; simpa using h1
theorem put_one {l : List Pnt} (h : putL l ≠ []) (hn : allNear l = true) : ∃ p t0, putL l = [p :: t0] ∧ (p :: t0).length = l.length ∧ convexV (p :: t0) = true ∧ (∀ c ∈ l, c ∈ p :: t0) ∧ allNear (p :: t0) = true := by
  have key : ∃ q, putL l = [q] ∧ q.length = l.length ∧ convexV q = true ∧ (∀ c ∈ l, c ∈ q) ∧ allNear q = true := by
    unfold putL at h ⊢
    by_cases h1 : convexV l = true
    · rw [if_pos h1]; exact ⟨l, rfl, rfl, h1, fun c hc => hc, hn⟩
    · rw [if_neg h1] at h ⊢
      by_cases h2 : convexV l.reverse = true
      · rw [if_pos h2]; exact ⟨l.reverse, rfl, List.length_reverse, h2, fun c hc => List.mem_reverse.2 hc, by unfold allNear at hn ⊢; rw [List.all_reverse]; exact hn⟩
      · rw [if_neg h2] at h; exact absurd rfl h
  obtain ⟨q, h1, h2, h3, h4, h5⟩ := key
  rcases q with _ | ⟨p, t0⟩
  · exact absurd h3 (by decide)
  · exact ⟨p, t0, h1, h2, h3, h4, h5⟩
theorem near_16 {l : List Pnt} (h : boundedV l = true) : l.length ≤ 16 ∧ allNear l = true := by unfold boundedV at h; simpa [and_comm] using h

theorem puts_far (A : Option Addr) (cap : Nat) (l : List Pnt) (w : World) (hr : Cor w w.heap.size A l) (hl : l.length ≤ 9223372036854775807) (hb : boundedV l = false) :
    Calls Try.prog 4 #[.slice A l.length cap] w fun e w' => e = .returned (.bool true) ∧ Below w.heap.size w w' := by
  have HR := Lib.hid hr
  clear hr
  obtain ⟨n, hn⟩ : ∃ n, l.length = n := ⟨_, rfl⟩
  rw [hn] at hl ⊢
  have HN := Lib.hid hn
  have BND := Lib.hid (fun w hr => (hn ▸ bounded_any A cap l w hr (hn.symm ▸ hl) : Calls Try.prog 9 #[.slice A n cap] w _))
  have HB := Lib.hid hb
  clear hb hn
  go_enter Try.func4, Try.ntmps4
  go_wp2_with fail
  refine (BND.out _ HR.out).mono ?_
  rintro e w1 ⟨rfl, hb0⟩
  rw [HB.out]
  go_wp2_with fail
  refine (shown6_any _).mono ?_
  rintro e w2 ⟨rfl, h2⟩
  go_wp2
  go_ret
  exact ⟨rfl, hb0.trans (h2.mono hb0.size)⟩

theorem puts_none (A : Option Addr) (cap : Nat) (l : List Pnt) (w : World) (hr : Cor w w.heap.size A l) (hl : l.length ≤ 9223372036854775807) (hb : boundedV l = true) (hp : putL l = []) :
    Calls Try.prog 4 #[.slice A l.length cap] w fun e w' => e = .returned (.bool true) ∧ Below w.heap.size w w' := by
  have hb16 := near_16 hb
  have PUT0 := fun w hr => pput_any none [] A cap l w (pcs_nil _ _ _) hr (by simp) hb16.1 hb16.2
  have CV0 := fun w hr => pconvex_any A cap l w hr hb16.1 hb16.2
  rw [put_none hp] at CV0
  simp only [hp, List.nil_append] at PUT0
  have HR := Lib.hid hr
  clear hr
  obtain ⟨n, hn⟩ : ∃ n, l.length = n := ⟨_, rfl⟩
  rw [hn] at hl ⊢
  have HN := Lib.hid hn
  have BND := Lib.hid (fun w hr => (hn ▸ bounded_any A cap l w hr (hn.symm ▸ hl) : Calls Try.prog 9 #[.slice A n cap] w _))
  have PUT := Lib.hid (fun w hr => (hn ▸ PUT0 w hr : Calls Try.prog 24 #[.slice none 0 0, .slice A n cap] w _))
  have CV := Lib.hid (fun w hr => (hn ▸ CV0 w hr : Calls Try.prog 15 #[.slice A n cap] w _))
  have HB := Lib.hid hb
  clear hb hn hp PUT0 CV0 hb16
  go_enter Try.func4, Try.ntmps4
  go_wp2_with fail
  refine (BND.out _ HR.out).mono ?_
  rintro e w1 ⟨rfl, hb0⟩
  rw [HB.out]
  go_wp2_with fail
  refine (shown6_any _).mono ?_
  rintro e w2 ⟨rfl, h2⟩
  replace hb0 := hb0.trans (h2.mono hb0.size)
  go_wp2_with fail
  refine (PUT.out _ (HR.out.calls hb0)).mono ?_
  rintro e w3 ⟨A3, c3, rfl, -, h3⟩
  replace hb0 := hb0.trans (h3.mono hb0.size)
  go_wp2_with fail
  refine (CV.out _ (HR.out.calls hb0)).mono ?_
  rintro e w4 ⟨rfl, h4⟩
  replace hb0 := hb0.trans (h4.mono hb0.size)
  go_wp2
  go_ret
  exact ⟨rfl, hb0⟩

theorem puts_main (A : Option Addr) (cap : Nat) (l : List Pnt) (w : World) (hr : Cor w w.heap.size A l) (hl : l.length ≤ 9223372036854775807) (hb : boundedV l = true) (hp : putL l ≠ []) :
    Calls Try.prog 4 #[.slice A l.length cap] w fun e w' => e = .returned (.bool true) ∧ Below w.heap.size w w' := by
  have hb16 := near_16 hb
  have PUT0 := fun w hr => pput_any none [] A cap l w (pcs_nil _ _ _) hr (by simp) hb16.1 hb16.2
  obtain ⟨p0, t0, hp1, hpl, hpc, hpm, hpn⟩ := put_one hp hb16.2
  obtain ⟨lx, ly, hx, hy, hbox, hin, -, -⟩ := box_is p0 t0
  obtain ⟨q, hq⟩ : ∃ q, p0 :: t0 = q := ⟨_, rfl⟩
  have hq0 : 0 < q.length := by rw [← hq]; simp
  rw [hq] at hp1 hpl hpc hpm hpn hbox hin
  clear hq p0 t0
  simp only [hp1, List.nil_append] at PUT0
  have hq16 : q.length ≤ 16 := by rw [hpl]; exact hb16.1
  have CV0 := fun A c w hr => pconvex_any A c q w hr hq16 hpn
  rw [hpc] at CV0
  have BX0 := fun A c w hr => pbox_any A c q w hr hq16 hpn
  rw [hbox] at BX0
  have HAS0 := fun A c x y w hr h1 h2 => phas_any A c q x y w hr hq16 hpn h1 h2
  have HHAS := Lib.hid (fun c (hc : c ∈ l) => convex_has hpc (hpm c hc))
  have HIN := Lib.hid (fun c (hc : c ∈ l) => hin c (hpm c hc))
  have HNR := Lib.hid hb16.2
  have HPL := Lib.hid hpl
  have HR := Lib.hid hr
  clear hr
  obtain ⟨n, hn⟩ : ∃ n, l.length = n := ⟨_, rfl⟩
  rw [hn] at hl ⊢
  have HN := Lib.hid hn
  have BND := Lib.hid (fun w hr => (hn ▸ bounded_any A cap l w hr (hn.symm ▸ hl) : Calls Try.prog 9 #[.slice A n cap] w _))
  rw [hn] at hpl
  rw [hpl] at CV0 BX0 HAS0 hq0 hq16
  have PUT := Lib.hid (fun w hr => (hn ▸ PUT0 w hr : Calls Try.prog 24 #[.slice none 0 0, .slice A n cap] w _))
  have CV := Lib.hid CV0
  have BX := Lib.hid BX0
  have HAS := Lib.hid HAS0
  have HB := Lib.hid hb
  have HPL2 := Lib.hid hpl
  have q1 : ((n : Int) != (n : Int)) = false := by simp
  clear hb hn hp hp1 hpl hpc hpm hpn hbox hin PUT0 CV0 BX0 HAS0 hb16
  go_enter Try.func4, Try.ntmps4
  go_wp2_with fail
  refine (BND.out _ HR.out).mono ?_
  rintro e w1 ⟨rfl, hb0⟩
  rw [HB.out]
  go_wp2_with fail
  refine (shown6_any _).mono ?_
  rintro e w2 ⟨rfl, h2⟩
  replace hb0 := hb0.trans (h2.mono hb0.size)
  go_wp2_with fail
  refine (PUT.out _ (HR.out.calls hb0)).mono ?_
  rintro e w3 ⟨A3, c3, rfl, hp3, h3⟩
  replace hb0 := hb0.trans (h3.mono hb0.size)
  clear h3
  obtain ⟨ad, a2, cq, rfl, hB, h16, k1, hc⟩ := hp3.at_ (i := 0) (p := q) rfl
  rw [add_zero, HPL2.out] at k1
  obtain ⟨ad2, rfl, _⟩ := hc (by rw [HPL2.out]; exact hq0)
  have HC := Lib.hid hc
  clear hp3 hc h16
  go_wp2_with fail
  refine (CV.out _ _ _ HC.out).mono ?_
  rintro e w4 ⟨rfl, h4⟩
  replace hb0 := hb0.trans (h4.mono hb0.size)
  replace k1 := (h4.cell hB).trans k1
  have HC4 := Lib.hid (HC.out.calls h4)
  replace hB := Nat.lt_of_lt_of_le hB h4.size
  clear h4 HC
  go_wp2_with fail
  refine (BX.out _ _ _ HC4.out).mono ?_
  rintro e w5 ⟨rfl, h5⟩
  replace hb0 := hb0.trans (h5.mono hb0.size)
  replace k1 := (h5.cell hB).trans k1
  have HC5 := Lib.hid (HC4.out.calls h5)
  replace hB := Nat.lt_of_lt_of_le hB h5.size
  clear h5 HC4
  go_upto_region 9 with fail
  refine any_gen (fun z => z.cell? ⟨w5.heap.size, 0, none⟩ = some (.int .i64 lx) ∧ z.cell? ⟨w5.heap.size, 1, none⟩ = some (.int .i64 ly) ∧ z.cell? ⟨w5.heap.size + 1, 0, none⟩ = some (.int .i64 hx) ∧ z.cell? ⟨w5.heap.size + 1, 1, none⟩ = some (.int .i64 hy) ∧ z.cell? ad = some (.slice (some ad2) n cq) ∧ w5.heap.size + 1 + 1 ≤ z.heap.size ∧ Below w5.heap.size w5 z) ⟨by simp [go_sem], by simp [go_sem], by simp [go_sem], by simp [go_sem], (World.cell?_alloc_old _ _ _ (by simp; omega)).trans ((World.cell?_alloc_old _ _ _ (by (try dsimp only); omega)).trans k1), by simp, ((Below.refl _ _).alloc (Nat.le_refl _) _).alloc (by simp) _⟩ ?_
  clear k1
  rintro v0 ⟨c1, c2, c3, c4, k1, hs, hbv⟩
  replace hb0 := hb0.trans (hbv.mono hb0.size)
  have HC := Lib.hid (HC5.out.calls hbv)
  have hB2 : ad.block < v0.heap.size := by omega
  have hs2 := hb0.size
  clear hbv HC5 hB
  obtain ⟨G, hG⟩ : ∃ G, w5.heap.size = G := ⟨_, rfl⟩
  rw [hG] at c1 c2 c3 c4 hs
  simp only [hG]
  clear hG
  go_wp2_with fail
  go_loopw [6] (fun s6 wr => ∃ k : Nat, s6 = .int .i64 k ∧ k ≤ n ∧ Below v0.heap.size v0 wr) (fun s6 _ => n - (intOf s6).toNat)
  case atStart => exact ⟨0, rfl, Nat.zero_le _, Below.refl _ _⟩
  case round =>
    obtain ⟨k, rfl, hk, hbr⟩ := hrel
    by_cases hlt : k < n
    · obtain ⟨⟨x, y⟩, hp⟩ : ∃ p, l[k]? = some p := ⟨_, List.getElem?_eq_getElem (by rw [HN.out]; exact hlt)⟩
      obtain ⟨ada, rfl, hBa, e1, e2⟩ := ((HR.out.step hb0).step (hbr.mono hs2)).at_ hp
      dsimp only at e1 e2
      have hin := HIN.out _ (List.mem_of_getElem? hp)
      dsimp only at hin
      obtain ⟨i1, i2, i3, i4⟩ := hin
      obtain ⟨nx, ny⟩ := near_at HNR.out hp
      have HS0 := fun A c w hr => HAS.out A c x y w hr nx ny
      rw [HHAS.out _ (List.mem_of_getElem? hp)] at HS0
      have HS := Lib.hid HS0
      clear HS0 hp nx ny
      have q2 : (0 : Int) ≤ (k : Int) := by omega
      have q3 : (k : Int) < (n : Int) := by omega
      have q4 : IntKind.i64.wrap ((k : Int) + 1) = (k : Int) + 1 := IntWalk.i64_in _ (by omega)
      have q5 : decide ((k : Int) < (n : Int)) = true := by simp; omega
      have g1 : decide (x < lx) = false := by simp; omega
      have g2 : decide (hx < x) = false := by simp; omega
      have g3 : decide (y < ly) = false := by simp; omega
      have g4 : decide (hy < y) = false := by simp; omega
      have g5 : decide (x > hx) = false := by simp; omega
      have g6 : decide (y > hy) = false := by simp; omega
      have hz := hbr.size
      have hk1 : (ada.add (k * 2)).block < w.heap.size := by rw [block_add]; exact hBa
      have d1 := (hbr.cell (by (try dsimp only); omega)).trans c1
      have d2 := (hbr.cell (by (try dsimp only); omega)).trans c2
      have d3 := (hbr.cell (by (try dsimp only); omega)).trans c3
      have d4 := (hbr.cell (by (try dsimp only); omega)).trans c4
      have d5 := (hbr.cell hB2).trans k1
      clear c1 c2 c3 c4 k1
      go_upto_region 13 with fail
      refine any_gen (fun z => z.cell? ⟨wr.heap.size, 0, none⟩ = some (.int .i64 (x)) ∧ z.cell? ⟨wr.heap.size, 1, none⟩ = some (.int .i64 (y)) ∧ z.cell? ⟨G, 0, none⟩ = some (.int .i64 (lx)) ∧ z.cell? ⟨G, 1, none⟩ = some (.int .i64 (ly)) ∧ z.cell? ⟨G + 1, 0, none⟩ = some (.int .i64 (hx)) ∧ z.cell? ⟨G + 1, 1, none⟩ = some (.int .i64 (hy)) ∧ z.cell? ad = some (.slice (some ad2) n cq) ∧ wr.heap.size + 1 ≤ z.heap.size ∧ Below v0.heap.size v0 z) ⟨by simp [go_sem], by simp [go_sem], (World.cell?_alloc_old _ _ _ (by (try dsimp only); omega)).trans d1, (World.cell?_alloc_old _ _ _ (by (try dsimp only); omega)).trans d2, (World.cell?_alloc_old _ _ _ (by (try dsimp only); omega)).trans d3, (World.cell?_alloc_old _ _ _ (by (try dsimp only); omega)).trans d4, (World.cell?_alloc_old _ _ _ (by (try dsimp only); omega)).trans d5, by simp, hbr.alloc hz _⟩ ?_
      rintro u0 ⟨d6, d7, d1, d2, d3, d4, d5, hsu, hbu⟩
      have hzu := hbu.size
      have HCu := Lib.hid (HC.out.calls hbu)
      clear e1 e2 hbr
      go_region_held3 (fun w' => w'.cell? ⟨wr.heap.size, 0, none⟩ = some (.int .i64 (x)) ∧ w'.cell? ⟨wr.heap.size, 1, none⟩ = some (.int .i64 (y)) ∧ w'.cell? ⟨G, 0, none⟩ = some (.int .i64 (lx)) ∧ w'.cell? ⟨G, 1, none⟩ = some (.int .i64 (ly)) ∧ w'.cell? ⟨G + 1, 0, none⟩ = some (.int .i64 (hx)) ∧ w'.cell? ⟨G + 1, 1, none⟩ = some (.int .i64 (hy)) ∧ w'.cell? ad = some (.slice (some ad2) n cq) ∧ Below u0.heap.size u0 w') ((first | assumption | exact ⟨by simp [*], by simp [*], by simp [*], by simp [*], by simp [*], by simp [*], by simp [*], (Below.refl _ _).drew⟩ | exact keep7 ‹_› hb (by (try dsimp only); omega) (by (try dsimp only); omega) (by (try dsimp only); omega) (by (try dsimp only); omega) (by (try dsimp only); omega) (by (try dsimp only); omega) (by (try dsimp only); omega) | exact keepA7 ‹_› _ (by (try dsimp only); omega) (by (try dsimp only); omega) (by (try dsimp only); omega) (by (try dsimp only); omega) (by (try dsimp only); omega) (by (try dsimp only); omega) (by (try dsimp only); omega) | exact keepS7 (keepS7 ‹_› _ _ (by (try dsimp only); omega) (by (try dsimp only); omega) (by (try dsimp only); omega) (by (try dsimp only); omega) (by (try dsimp only); omega) (by (try dsimp only); omega) (by (try dsimp only); omega) (by (try dsimp only); omega)) _ _ (by (try dsimp only); omega) (by (try dsimp only); omega) (by (try dsimp only); omega) (by (try dsimp only); omega) (by (try dsimp only); omega) (by (try dsimp only); omega) (by (try dsimp only); omega) (by (try dsimp only); omega))) ((first | (go_at_call 17; refine (HS.out _ _ _ (HCu.out.calls (by exact belK7 (by assumption)))).mono ?_; rintro e w' ⟨rfl, hb⟩)))
      all_goals
        have hF := belK7 ‹_ ∧ _ ∧ _ ∧ _ ∧ _ ∧ _ ∧ _ ∧ Below u0.heap.size u0 _›
        have hbn := hbu.trans (hF.mono hzu)
        go_wp2
        go_roundw
        case rel => exact ⟨k + 1, by go_num, by omega, hbn⟩
        case measure => simp [intOf]; omega
    · obtain rfl : k = n := by omega
      have q5 : decide ((k : Int) < (k : Int)) = false := by simp
      go_wp2
      go_ret
      exact ⟨rfl, hb0.trans (hbr.mono hs2)⟩

theorem walk_PiecePuts (A : Option Addr) (cap : Nat) (l : List Pnt) (w : World) (hr : Cor w w.heap.size A l) (hl : l.length ≤ 9223372036854775807) :
    Calls Try.prog 4 #[.slice A l.length cap] w fun e w' => e = .returned (.bool true) ∧ Below w.heap.size w w' := by
  cases hb : boundedV l
  · exact puts_far A cap l w hr hl hb
  · by_cases hp : putL l = []
    · exact puts_none A cap l w hr hl hb hp
    · exact puts_main A cap l w hr hl hb hp
end Go.Proofs.Ytlgfnhapjhoelaa
