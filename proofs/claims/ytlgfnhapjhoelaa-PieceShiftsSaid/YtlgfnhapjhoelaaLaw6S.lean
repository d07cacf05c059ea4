/- The walk of PieceShifts: a piece that is shifted is as great, is convex if it was, and has what it had, shifted. -/
import Derived.Test.YtlgfnhapjhoelaaLaw6U
namespace Go.Proofs.Ytlgfnhapjhoelaa
open Go.RowKit
set_option linter.unusedVariables false
set_option linter.unusedSimpArgs false
set_option maxHeartbeats 4000000
set_option maxRecDepth 100000

theorem near_three6 {s t a b c d : Int} (h : boundedV [(s, t), (a, b), (c, d)] = true) : NearP (s, t) ∧ NearP (a, b) ∧ NearP (c, d) := by
  unfold boundedV allNear at h
  simp only [List.all_cons, List.all_nil, Bool.and_true, Bool.and_eq_true, nearB_iff] at h
  exact ⟨h.1.1, h.1.2.1, h.1.2.2⟩
theorem area_shiftV (q : Pnt) (l : List Pnt) : areaV (l.map (shP q)) = areaV l := by unfold areaV; rw [area_shift]

theorem shifts_far (A : Option Addr) (cap : Nat) (l : List Pnt) (s t a b : Int) (w : World) (hr : Cor w w.heap.size A l) (hl : l.length ≤ 9223372036854775807) (hb : boundedV l = false) :
    Calls Try.prog 6 #[.slice A l.length cap, P2 s t, P2 a b] w fun e w' => e = .returned (.bool true) ∧ Below w.heap.size w w' := by
  have HR := Lib.hid hr
  clear hr
  obtain ⟨n, hn⟩ : ∃ n, l.length = n := ⟨_, rfl⟩
  rw [hn] at hl ⊢
  have HN := Lib.hid hn
  have BND := Lib.hid (fun w hr => (hn ▸ bounded_any A cap l w hr (hn.symm ▸ hl) : Calls Try.prog 9 #[.slice A n cap] w _))
  have HB := Lib.hid hb
  clear hb hn
  go_enter Try.func6, Try.ntmps6
  go_wp2_with fail
  refine (BND.out _ ((HR.out.step (((Below.refl _ _).alloc (Nat.le_refl _) _).alloc (by simp) _)).more (by simp; omega))).mono ?_
  rintro e w1 ⟨rfl, h1⟩
  rw [HB.out]
  have z1 := h1.size
  simp at z1
  obtain ⟨c1, c2, c3, c4, hb0⟩ : w1.cell? ⟨w.heap.size, 0, none⟩ = some (.int .i64 (s)) ∧ w1.cell? ⟨w.heap.size, 1, none⟩ = some (.int .i64 (t)) ∧ w1.cell? ⟨w.heap.size + 1, 0, none⟩ = some (.int .i64 (a)) ∧ w1.cell? ⟨w.heap.size + 1, 1, none⟩ = some (.int .i64 (b)) ∧ Below w.heap.size w w1 := ⟨(h1.cell (p := ⟨w.heap.size, 0, none⟩) (by first | (simp; done) | (simp; omega) | omega)).trans (by simp [go_sem]), (h1.cell (p := ⟨w.heap.size, 1, none⟩) (by first | (simp; done) | (simp; omega) | omega)).trans (by simp [go_sem]), (h1.cell (p := ⟨w.heap.size + 1, 0, none⟩) (by first | (simp; done) | (simp; omega) | omega)).trans (by simp [go_sem]), (h1.cell (p := ⟨w.heap.size + 1, 1, none⟩) (by first | (simp; done) | (simp; omega) | omega)).trans (by simp [go_sem]), (show Below w.heap.size w _ from (by repeat (first | exact Below.refl _ _ | assumption | refine below_dN ?_ _ | refine Below.setCell ?_ (by first | (simp; done) | (simp; omega) | omega) _ | refine Below.alloc ?_ (by first | (simp; done) | (simp; omega) | omega) _))).trans (h1.mono (by simp; omega))⟩
  clear h1
  go_wp2_with fail
  refine (shown6_any _).mono ?_
  rintro e w2 ⟨rfl, h2⟩
  go_wp2
  go_ret
  exact ⟨rfl, hb0.trans (h2.mono hb0.size)⟩

theorem shifts_far2 (A : Option Addr) (cap : Nat) (l : List Pnt) (s t a b : Int) (w : World) (hr : Cor w w.heap.size A l) (hl : l.length ≤ 9223372036854775807) (hb : boundedV l = true) (hq : boundedV [(s, t), (a, b), (IntKind.i64.wrap (s + a), IntKind.i64.wrap (t + b))] = false) :
    Calls Try.prog 6 #[.slice A l.length cap, P2 s t, P2 a b] w fun e w' => e = .returned (.bool true) ∧ Below w.heap.size w w' := by
  obtain ⟨sx, hsx⟩ : ∃ v, IntKind.i64.wrap (s + a) = v := ⟨_, rfl⟩
  obtain ⟨sy, hsy⟩ : ∃ v, IntKind.i64.wrap (t + b) = v := ⟨_, rfl⟩
  rw [hsx, hsy] at hq
  have HQ := Lib.hid hq
  clear hq
  have HR := Lib.hid hr
  clear hr
  obtain ⟨n, hn⟩ : ∃ n, l.length = n := ⟨_, rfl⟩
  rw [hn] at hl ⊢
  have HN := Lib.hid hn
  have BND := Lib.hid (fun w hr => (hn ▸ bounded_any A cap l w hr (hn.symm ▸ hl) : Calls Try.prog 9 #[.slice A n cap] w _))
  have HB := Lib.hid hb
  clear hb hn
  go_enter Try.func6, Try.ntmps6
  go_wp2_with fail
  refine (BND.out _ ((HR.out.step (((Below.refl _ _).alloc (Nat.le_refl _) _).alloc (by simp) _)).more (by simp; omega))).mono ?_
  rintro e w1 ⟨rfl, h1⟩
  rw [HB.out]
  have z1 := h1.size
  simp at z1
  obtain ⟨c1, c2, c3, c4, hb0⟩ : w1.cell? ⟨w.heap.size, 0, none⟩ = some (.int .i64 (s)) ∧ w1.cell? ⟨w.heap.size, 1, none⟩ = some (.int .i64 (t)) ∧ w1.cell? ⟨w.heap.size + 1, 0, none⟩ = some (.int .i64 (a)) ∧ w1.cell? ⟨w.heap.size + 1, 1, none⟩ = some (.int .i64 (b)) ∧ Below w.heap.size w w1 := ⟨(h1.cell (p := ⟨w.heap.size, 0, none⟩) (by first | (simp; done) | (simp; omega) | omega)).trans (by simp [go_sem]), (h1.cell (p := ⟨w.heap.size, 1, none⟩) (by first | (simp; done) | (simp; omega) | omega)).trans (by simp [go_sem]), (h1.cell (p := ⟨w.heap.size + 1, 0, none⟩) (by first | (simp; done) | (simp; omega) | omega)).trans (by simp [go_sem]), (h1.cell (p := ⟨w.heap.size + 1, 1, none⟩) (by first | (simp; done) | (simp; omega) | omega)).trans (by simp [go_sem]), (show Below w.heap.size w _ from (by repeat (first | exact Below.refl _ _ | assumption | refine below_dN ?_ _ | refine Below.setCell ?_ (by first | (simp; done) | (simp; omega) | omega) _ | refine Below.alloc ?_ (by first | (simp; done) | (simp; omega) | omega) _))).trans (h1.mono (by simp; omega))⟩
  clear h1
  go_wp2_with fail
  refine (bounded_any (some ⟨w1.heap.size, 0, none⟩) 3 [(s, t), (a, b), (sx, sy)] _ (cor_lit' _ _ _ _ [(s, t), (a, b), (sx, sy)] _ rfl rfl (by simp)) (by simp)).mono ?_
  rintro e w2 ⟨rfl, h2⟩
  rw [HQ.out]
  have h2b := (show Below w1.heap.size w1 _ from (Below.refl _ _).alloc (Nat.le_refl _) _).trans (h2.mono (by simp))
  replace c1 := (h2b.cell (by (try dsimp only); omega)).trans c1
  replace c2 := (h2b.cell (by (try dsimp only); omega)).trans c2
  replace c3 := (h2b.cell (by (try dsimp only); omega)).trans c3
  replace c4 := (h2b.cell (by (try dsimp only); omega)).trans c4
  replace hb0 := hb0.trans (h2b.mono (by omega))
  have z2 := h2b.size
  clear h2 h2b
  go_wp2_with fail
  refine (shown6_any _).mono ?_
  rintro e w3 ⟨rfl, h3⟩
  go_wp2
  go_ret
  exact ⟨rfl, hb0.trans (h3.mono hb0.size)⟩

theorem shifts_main (A : Option Addr) (cap : Nat) (l : List Pnt) (s t a b : Int) (w : World) (hr : Cor w w.heap.size A l) (hl : l.length ≤ 9223372036854775807) (hb : boundedV l = true) (hq : boundedV [(s, t), (a, b), (IntKind.i64.wrap (s + a), IntKind.i64.wrap (t + b))] = true) :
    Calls Try.prog 6 #[.slice A l.length cap, P2 s t, P2 a b] w fun e w' => e = .returned (.bool true) ∧ Below w.heap.size w w' := by
  have hb16 := near_16 hb
  obtain ⟨n1, n2, n3⟩ := near_three6 hq
  unfold NearP at n1 n2
  dsimp only at n1 n2
  have hsx : IntKind.i64.wrap (s + a) = s + a := IntWalk.i64_in _ (by omega)
  have hsy : IntKind.i64.wrap (t + b) = t + b := IntWalk.i64_in _ (by omega)
  rw [hsx, hsy] at hq n3
  unfold NearP at n3
  dsimp only at n3
  obtain ⟨sx, hx⟩ : ∃ v, s + a = v := ⟨_, rfl⟩
  obtain ⟨sy, hy⟩ : ∃ v, t + b = v := ⟨_, rfl⟩
  rw [hx, hy] at hq n3
  replace hsx : IntKind.i64.wrap (s + a) = sx := by rw [hsx, hx]
  replace hsy : IntKind.i64.wrap (t + b) = sy := by rw [hsy, hy]
  obtain ⟨m, hm⟩ : ∃ m, l.map (shP (a, b)) = m := ⟨_, rfl⟩
  have hml : m.length = l.length := by rw [← hm]; simp
  have e1 : convexV m = convexV l := by rw [← hm]; exact convex_shift _ _
  have e2 : hasV m (sx, sy) = hasV l (s, t) := by rw [← hm, ← hx, ← hy]; exact has_shift (a, b) (s, t) l
  have e3 : areaV m = areaV l := by rw [← hm]; exact area_shiftV _ _
  have PS0 := fun w hr => pshift_any A cap l a b w hr hb16.1 hb16.2 n2.1 n2.2
  have RS0 := fun w hr => r6shift_any A cap l a b w hr hb16.1 hb16.2 n2.1 n2.2
  simp only [hm] at PS0 RS0
  have BM0 := fun A c w hr => bounded_any A c m w hr (by rw [hml]; omega)
  have CL0 := fun w hr => pconvex_any A cap l w hr hb16.1 hb16.2
  have HL0 := fun w hr => phas_any A cap l s t w hr hb16.1 hb16.2 n1.1 n1.2
  have AL0 := fun w hr => parea_any A cap l w hr hb16.1 hb16.2
  have CM0 := fun hn A c w hr => pconvex_any A c m w hr (by rw [hml]; exact hb16.1) hn
  have HM0 := fun hn A c w hr => phas_any A c m sx sy w hr (by rw [hml]; exact hb16.1) hn n3.1 n3.2
  have AM0 := fun hn A c w hr => parea_any A c m w hr (by rw [hml]; exact hb16.1) hn
  rw [e1] at CM0
  rw [e2] at HM0
  rw [e3] at AM0
  obtain ⟨cv, hcv⟩ : ∃ v, convexV l = v := ⟨_, rfl⟩
  obtain ⟨hv, hhv⟩ : ∃ v, hasV l (s, t) = v := ⟨_, rfl⟩
  obtain ⟨av, hav⟩ : ∃ v, areaV l = v := ⟨_, rfl⟩
  simp only [hcv] at CL0 CM0
  simp only [hhv] at HL0 HM0
  simp only [hav] at AL0 AM0
  clear e1 e2 e3 hcv hhv hav hm
  have HR := Lib.hid hr
  clear hr
  obtain ⟨n, hn⟩ : ∃ n, l.length = n := ⟨_, rfl⟩
  rw [hn] at hl ⊢
  have HN := Lib.hid hn
  have BND := Lib.hid (fun w hr => (hn ▸ bounded_any A cap l w hr (hn.symm ▸ hl) : Calls Try.prog 9 #[.slice A n cap] w _))
  have hn16 : n ≤ 16 := by rw [← hn]; exact hb16.1
  have HB16 := Lib.hid hb16
  rw [hml, hn] at BM0 CM0 HM0 AM0
  rw [hn] at PS0 RS0 CL0 HL0 AL0
  have HML := Lib.hid (hml.trans hn)
  have PS := Lib.hid PS0
  have RS := Lib.hid RS0
  have BM := Lib.hid BM0
  have CL := Lib.hid CL0
  have HL := Lib.hid HL0
  have AL := Lib.hid AL0
  have CM := Lib.hid CM0
  have HM := Lib.hid HM0
  have AM := Lib.hid AM0
  have HB := Lib.hid hb
  have HQ := Lib.hid hq
  clear hb hq hn hml hb16 n1 n2 n3 hx hy PS0 RS0 BM0 CL0 HL0 AL0 CM0 HM0 AM0
  go_enter Try.func6, Try.ntmps6
  go_wp2_with fail
  refine (BND.out _ ((HR.out.step (((Below.refl _ _).alloc (Nat.le_refl _) _).alloc (by simp) _)).more (by simp; omega))).mono ?_
  rintro e w1 ⟨rfl, h1⟩
  rw [HB.out]
  have z1 := h1.size
  simp at z1
  obtain ⟨c1, c2, c3, c4, hb0⟩ : w1.cell? ⟨w.heap.size, 0, none⟩ = some (.int .i64 (s)) ∧ w1.cell? ⟨w.heap.size, 1, none⟩ = some (.int .i64 (t)) ∧ w1.cell? ⟨w.heap.size + 1, 0, none⟩ = some (.int .i64 (a)) ∧ w1.cell? ⟨w.heap.size + 1, 1, none⟩ = some (.int .i64 (b)) ∧ Below w.heap.size w w1 := ⟨(h1.cell (p := ⟨w.heap.size, 0, none⟩) (by first | (simp; done) | (simp; omega) | omega)).trans (by simp [go_sem]), (h1.cell (p := ⟨w.heap.size, 1, none⟩) (by first | (simp; done) | (simp; omega) | omega)).trans (by simp [go_sem]), (h1.cell (p := ⟨w.heap.size + 1, 0, none⟩) (by first | (simp; done) | (simp; omega) | omega)).trans (by simp [go_sem]), (h1.cell (p := ⟨w.heap.size + 1, 1, none⟩) (by first | (simp; done) | (simp; omega) | omega)).trans (by simp [go_sem]), (show Below w.heap.size w _ from (by repeat (first | exact Below.refl _ _ | assumption | refine below_dN ?_ _ | refine Below.setCell ?_ (by first | (simp; done) | (simp; omega) | omega) _ | refine Below.alloc ?_ (by first | (simp; done) | (simp; omega) | omega) _))).trans (h1.mono (by simp; omega))⟩
  clear h1
  go_wp2_with fail
  refine (bounded_any (some ⟨w1.heap.size, 0, none⟩) 3 [(s, t), (a, b), (sx, sy)] _ (cor_lit' _ _ _ _ [(s, t), (a, b), (sx, sy)] _ rfl rfl (by simp)) (by simp)).mono ?_
  rintro e w2 ⟨rfl, h2⟩
  rw [HQ.out]
  have h2b := (show Below w1.heap.size w1 _ from (Below.refl _ _).alloc (Nat.le_refl _) _).trans (h2.mono (by simp))
  replace c1 := (h2b.cell (by (try dsimp only); omega)).trans c1
  replace c2 := (h2b.cell (by (try dsimp only); omega)).trans c2
  replace c3 := (h2b.cell (by (try dsimp only); omega)).trans c3
  replace c4 := (h2b.cell (by (try dsimp only); omega)).trans c4
  replace hb0 := hb0.trans (h2b.mono (by omega))
  have z2 := h2b.size
  clear h2 h2b
  go_wp2_with fail
  refine (shown6_any _).mono ?_
  rintro e w3 ⟨rfl, h3⟩
  replace c1 := (h3.cell (by (try dsimp only); omega)).trans c1
  replace c2 := (h3.cell (by (try dsimp only); omega)).trans c2
  replace c3 := (h3.cell (by (try dsimp only); omega)).trans c3
  replace c4 := (h3.cell (by (try dsimp only); omega)).trans c4
  replace hb0 := hb0.trans (h3.mono (by omega))
  have z3 := h3.size
  clear h3
  go_wp2_with fail
  refine (PS.out _ (HR.out.calls hb0)).mono ?_
  rintro e w4 ⟨A4, k4, rfl, hc4, h4⟩
  replace c1 := (h4.cell (by (try dsimp only); omega)).trans c1
  replace c2 := (h4.cell (by (try dsimp only); omega)).trans c2
  replace c3 := (h4.cell (by (try dsimp only); omega)).trans c3
  replace c4 := (h4.cell (by (try dsimp only); omega)).trans c4
  replace hb0 := hb0.trans (h4.mono (by omega))
  have z4 := h4.size
  have HC4 := Lib.hid hc4
  clear h4 hc4
  go_wp2_with fail
  refine (RS.out _ (HR.out.calls hb0)).mono ?_
  rintro e w5 ⟨v5, rfl, -, hrow, h5⟩
  obtain ⟨A5, k5, rfl, -, hc5, -⟩ := cor_of_row hrow
  replace c1 := (h5.cell (by (try dsimp only); omega)).trans c1
  replace c2 := (h5.cell (by (try dsimp only); omega)).trans c2
  replace c3 := (h5.cell (by (try dsimp only); omega)).trans c3
  replace c4 := (h5.cell (by (try dsimp only); omega)).trans c4
  replace hb0 := hb0.trans (h5.mono (by omega))
  have z5 := h5.size
  have HC5 := Lib.hid (HC4.out.calls h5)
  rw [HML.out]
  clear h5 HC4 hrow
  go_wp2_with fail
  refine (BM.out _ _ _ hc5).mono ?_
  rintro e w6 ⟨rfl, h6⟩
  replace c1 := (h6.cell (by (try dsimp only); omega)).trans c1
  replace c2 := (h6.cell (by (try dsimp only); omega)).trans c2
  replace c3 := (h6.cell (by (try dsimp only); omega)).trans c3
  replace c4 := (h6.cell (by (try dsimp only); omega)).trans c4
  replace hb0 := hb0.trans (h6.mono (by omega))
  have z6 := h6.size
  have HC := Lib.hid (HC5.out.calls h6)
  clear h6 HC5 hc5
  rcases hbm : boundedV m with _ | _
  · go_wp2
    go_ret
    exact ⟨rfl, hb0⟩
  · have hmn := (near_16 hbm).2
    have CM2 := Lib.hid (CM.out hmn A4 k4)
    have HM2 := Lib.hid (HM.out hmn A4 k4)
    have AM2 := Lib.hid (AM.out hmn A4 k4)
    clear CM HM AM hmn hbm
    have q1 : (cv == cv) = true := by simp
    have q2 : (hv == hv) = true := by simp
    have q3 : (av == av) = true := by simp
    have q4 : ((n : Int) == (n : Int)) = true := by simp
    have hs : w.heap.size + 1 + 1 ≤ w6.heap.size := by omega
    have HRX := Lib.hid (HR.out.calls hb0)
    go_wp2_with fail
    go_upto_region 7 with fail
    go_region_held3 (fun w' => w'.cell? ⟨w.heap.size, 0, none⟩ = some (.int .i64 (s)) ∧ w'.cell? ⟨w.heap.size, 1, none⟩ = some (.int .i64 (t)) ∧ w'.cell? ⟨w.heap.size + 1, 0, none⟩ = some (.int .i64 (a)) ∧ w'.cell? ⟨w.heap.size + 1, 1, none⟩ = some (.int .i64 (b)) ∧ Below w6.heap.size w6 w') ((first | assumption | exact ⟨by simp [*], by simp [*], by simp [*], by simp [*], (Below.refl _ _).drew⟩ | exact keep4 ‹_› hb (by (try dsimp only); omega) (by (try dsimp only); omega) (by (try dsimp only); omega) (by (try dsimp only); omega) | exact keepA4 ‹_› _ (by (try dsimp only); omega) (by (try dsimp only); omega) (by (try dsimp only); omega) (by (try dsimp only); omega) | exact keepS4 (keepS4 ‹_› _ _ (by (try dsimp only); omega) (by (try dsimp only); omega) (by (try dsimp only); omega) (by (try dsimp only); omega) (by (try dsimp only); omega)) _ _ (by (try dsimp only); omega) (by (try dsimp only); omega) (by (try dsimp only); omega) (by (try dsimp only); omega) (by (try dsimp only); omega))) ((first | (go_at_call 15; with_reducible refine (CM2.out _ (HC.out.calls (by exact belK4 (by assumption)))).mono ?_; rintro e w' ⟨rfl, hb⟩) | (go_at_call 15; with_reducible refine (CL.out _ (HRX.out.calls (by exact belK4 (by assumption)))).mono ?_; rintro e w' ⟨rfl, hb⟩) | (go_at_call 17; with_reducible refine (HM2.out _ (HC.out.calls (by exact belK4 (by assumption)))).mono ?_; rintro e w' ⟨rfl, hb⟩) | (go_at_call 17; with_reducible refine (HL.out _ (HRX.out.calls (by exact belK4 (by assumption)))).mono ?_; rintro e w' ⟨rfl, hb⟩) | (go_at_call 13; with_reducible refine (AM2.out _ (HC.out.calls (by exact belK4 (by assumption)))).mono ?_; rintro e w' ⟨rfl, hb⟩) | (go_at_call 13; with_reducible refine (AL.out _ (HRX.out.calls (by exact belK4 (by assumption)))).mono ?_; rintro e w' ⟨rfl, hb⟩)))
    all_goals
      have hF := belK4 ‹_ ∧ _ ∧ _ ∧ _ ∧ Below w6.heap.size w6 _›
      go_wp2
      go_ret
      exact ⟨rfl, hb0.trans (hF.mono (by omega))⟩

theorem walk_PieceShifts (A : Option Addr) (cap : Nat) (l : List Pnt) (s t a b : Int) (w : World) (hr : Cor w w.heap.size A l) (hl : l.length ≤ 9223372036854775807) :
    Calls Try.prog 6 #[.slice A l.length cap, P2 s t, P2 a b] w fun e w' => e = .returned (.bool true) ∧ Below w.heap.size w w' := by
  cases hb : boundedV l
  · exact shifts_far A cap l s t a b w hr hl hb
  · cases hq : boundedV [(s, t), (a, b), (IntKind.i64.wrap (s + a), IntKind.i64.wrap (t + b))]
    · exact shifts_far2 A cap l s t a b w hr hl hb hq
    · exact shifts_main A cap l s t a b w hr hl hb hq
end Go.Proofs.Ytlgfnhapjhoelaa
