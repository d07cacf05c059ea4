/- The walk of PieceThree: of three corners a piece is put, unless they lie on one line. -/
import Derived.Test.YtlgfnhapjhoelaaShown6
import Derived.Test.YtlgfnhapjhoelaaRef5B
namespace Go.Proofs.Ytlgfnhapjhoelaa
open Go.RowKit
set_option linter.unusedVariables false
set_option linter.unusedSimpArgs false
set_option maxHeartbeats 4000000
set_option maxRecDepth 100000

theorem side_crs (x y u v a b : Int) : sideV x y u v a b = 0 ↔ crsP (x, y) (u, v) (a, b) = 0 := by
  have h := left_crs (a, b) (x, y) (u, v)
  have h2 := left_crs (a, b) (u, v) (x, y)
  unfold leftOf1 at h h2
  dsimp only at h h2
  rw [decide_eq_decide] at h h2
  rw [side_swap] at h2
  have h3 : crsP (u, v) (x, y) (a, b) = -crsP (x, y) (u, v) (a, b) := crs_swap _ _ _ _ _ _
  rw [h3] at h2
  omega
theorem crsP_back (a b c : Pnt) : crsP c b a = -crsP a b c := by unfold crsP crs; grind
theorem put_flat {x y u v a b : Int} (h1 : NearP (x, y)) (h2 : NearP (u, v)) (h3 : NearP (a, b)) (h : sideV x y u v a b = 0) : putL [(x, y), (u, v), (a, b)] = [] := by
  have h0 := (side_crs ..).1 h
  unfold putL
  rw [convex_three h1 h2 h3, show [(x, y), (u, v), (a, b)].reverse = [(a, b), (u, v), (x, y)] from rfl, convex_three h3 h2 h1, crsP_back (x, y) (u, v) (a, b), h0]
  rfl
theorem put_three {x y u v a b s t : Int} (h1 : NearP (x, y)) (h2 : NearP (u, v)) (h3 : NearP (a, b)) (h : sideV x y u v a b ≠ 0) :
    ∃ p : List Pnt, putL [(x, y), (u, v), (a, b)] = [p] ∧ p.length ≤ 16 ∧ allNear p = true ∧ hasV p (s, t) = withinV x y u v a b s t ∧ 0 < areaV p := by
  have h0 : crsP (x, y) (u, v) (a, b) ≠ 0 := fun g => h ((side_crs ..).2 g)
  have n1 := nearB_iff.2 h1
  have n2 := nearB_iff.2 h2
  have n3 := nearB_iff.2 h3
  dsimp only at n1 n2 n3
  unfold putL
  rw [convex_three h1 h2 h3, show [(x, y), (u, v), (a, b)].reverse = [(a, b), (u, v), (x, y)] from rfl, convex_three h3 h2 h1, crsP_back (x, y) (u, v) (a, b)]
  by_cases hp : 0 < crsP (x, y) (u, v) (a, b)
  · rw [decide_eq_true hp, if_pos rfl]
    refine ⟨_, rfl, by simp, by simp [allNear, n1, n2, n3], has_three h1 h2 h3 hp, ?_⟩
    unfold areaV
    rw [area_three, wrapA_in (by have := crs_bd h1 h2 h3; omega)]
    exact hp
  · have hq : 0 < -crsP (x, y) (u, v) (a, b) := by omega
    rw [decide_eq_false hp, decide_eq_true hq, if_neg (by simp), if_pos rfl]
    refine ⟨_, rfl, by simp, by simp [allNear, n1, n2, n3], ?_, ?_⟩
    · rw [has_three h3 h2 h1 (by rw [crsP_back (x, y) (u, v) (a, b)]; exact hq)]; exact within_swap ..
    · unfold areaV
      rw [area_three, wrapA_in (by have := crs_bd h3 h2 h1; omega), crsP_back (x, y) (u, v) (a, b)]
      exact hq
theorem near_three {x y u v a b : Int} (h1 : NearP (x, y)) (h2 : NearP (u, v)) (h3 : NearP (a, b)) : allNear [(x, y), (u, v), (a, b)] = true := by
  have n1 := nearB_iff.2 h1
  have n2 := nearB_iff.2 h2
  have n3 := nearB_iff.2 h3
  dsimp only at n1 n2 n3
  simp [allNear, n1, n2, n3]
theorem bounded_four {x y u v a b s t : Int} : boundedV [(x, y), (u, v), (a, b), (s, t)] = true ↔ NearP (x, y) ∧ NearP (u, v) ∧ NearP (a, b) ∧ NearP (s, t) := by
  unfold boundedV allNear
  simp only [List.all_cons, List.all_nil, Bool.and_true, Bool.and_eq_true, nearB_iff, List.length_cons, List.length_nil, decide_eq_true_eq]
  unfold NearP
  constructor
  · rintro ⟨⟨g1, g2, g3, g4⟩, _⟩; exact ⟨g1, g2, g3, g4⟩
  · rintro ⟨g1, g2, g3, g4⟩; exact ⟨⟨g1, g2, g3, g4⟩, by omega⟩

theorem three_far (x y u v a b s t : Int) (w : World) (hb : boundedV [(x, y), (u, v), (a, b), (s, t)] = false) :
    Calls Try.prog 5 #[P2 x y, P2 u v, P2 a b, P2 s t] w fun e w' => e = .returned (.bool true) ∧ Below w.heap.size w w' := by
  have HB := Lib.hid hb
  clear hb
  go_enter Try.func5, Try.ntmps5
  go_wp2_with fail
  refine (bounded_any (some ⟨w.heap.size + 1 + 1 + 1 + 1, 0, none⟩) 4 [(x, y), (u, v), (a, b), (s, t)] _ (cor_lit' _ _ _ _ _ _ (by simp) rfl (by simp)) (by simp)).mono ?_
  rintro e w1 ⟨rfl, h1⟩
  have z1 := h1.size
  simp at z1
  rw [HB.out]
  have hbW := (show Below w.heap.size w _ from (by repeat (first | exact Below.refl _ _ | refine below_dN ?_ _ | refine Below.setCell ?_ (by first | (simp; done) | (simp; omega)) _ | refine Below.alloc ?_ (by first | (simp; done) | (simp; omega)) _))).trans (h1.mono (by simp; omega))
  clear h1
  go_wp2_with fail
  refine (shown6_any _).mono ?_
  rintro e w2 ⟨rfl, h2⟩
  go_wp2
  go_ret
  exact ⟨rfl, hbW.trans (h2.mono hbW.size)⟩

theorem three_flat (x y u v a b s t : Int) (w : World) (hb : boundedV [(x, y), (u, v), (a, b), (s, t)] = true) (h0 : sideV x y u v a b = 0) :
    Calls Try.prog 5 #[P2 x y, P2 u v, P2 a b, P2 s t] w fun e w' => e = .returned (.bool true) ∧ Below w.heap.size w w' := by
  obtain ⟨n1, n2, n3, n4⟩ := bounded_four.1 hb
  have HB := Lib.hid hb
  clear hb
  have PUT0 := fun A B cb w (hp : Pcs w w.heap.size A []) (hr : Cor w w.heap.size B [(x, y), (u, v), (a, b)]) => pput_any A [] B cb [(x, y), (u, v), (a, b)] w hp hr (by simp) (by simp) (near_three n1 n2 n3)
  simp only [put_flat n1 n2 n3 h0] at PUT0
  have PUT := Lib.hid PUT0
  clear PUT0
  have SD0 := fun w => r5side_any x y u v a b w n1.1 n1.2 n2.1 n2.2 n3.1 n3.2
  simp only [h0] at SD0
  have SD := Lib.hid SD0
  clear SD0 h0 n1 n2 n3 n4
  go_enter Try.func5, Try.ntmps5
  go_wp2_with fail
  refine (bounded_any (some ⟨w.heap.size + 1 + 1 + 1 + 1, 0, none⟩) 4 [(x, y), (u, v), (a, b), (s, t)] _ (cor_lit' _ _ _ _ _ _ (by simp) rfl (by simp)) (by simp)).mono ?_
  rintro e w1 ⟨rfl, h1⟩
  have z1 := h1.size
  simp at z1
  rw [HB.out]
  obtain ⟨c1, c2, c3, c4, c5, c6, c7, c8, hb0⟩ : w1.cell? ⟨w.heap.size, 0, none⟩ = some (.int .i64 (x)) ∧ w1.cell? ⟨w.heap.size, 1, none⟩ = some (.int .i64 (y)) ∧ w1.cell? ⟨w.heap.size + 1, 0, none⟩ = some (.int .i64 (u)) ∧ w1.cell? ⟨w.heap.size + 1, 1, none⟩ = some (.int .i64 (v)) ∧ w1.cell? ⟨w.heap.size + 1 + 1, 0, none⟩ = some (.int .i64 (a)) ∧ w1.cell? ⟨w.heap.size + 1 + 1, 1, none⟩ = some (.int .i64 (b)) ∧ w1.cell? ⟨w.heap.size + 1 + 1 + 1, 0, none⟩ = some (.int .i64 (s)) ∧ w1.cell? ⟨w.heap.size + 1 + 1 + 1, 1, none⟩ = some (.int .i64 (t)) ∧ Below w.heap.size w w1 := ⟨(h1.cell (p := ⟨w.heap.size, 0, none⟩) (by first | (simp; done) | (simp; omega))).trans (by simp [go_sem]), (h1.cell (p := ⟨w.heap.size, 1, none⟩) (by first | (simp; done) | (simp; omega))).trans (by simp [go_sem]), (h1.cell (p := ⟨w.heap.size + 1, 0, none⟩) (by first | (simp; done) | (simp; omega))).trans (by simp [go_sem]), (h1.cell (p := ⟨w.heap.size + 1, 1, none⟩) (by first | (simp; done) | (simp; omega))).trans (by simp [go_sem]), (h1.cell (p := ⟨w.heap.size + 1 + 1, 0, none⟩) (by first | (simp; done) | (simp; omega))).trans (by simp [go_sem]), (h1.cell (p := ⟨w.heap.size + 1 + 1, 1, none⟩) (by first | (simp; done) | (simp; omega))).trans (by simp [go_sem]), (h1.cell (p := ⟨w.heap.size + 1 + 1 + 1, 0, none⟩) (by first | (simp; done) | (simp; omega))).trans (by simp [go_sem]), (h1.cell (p := ⟨w.heap.size + 1 + 1 + 1, 1, none⟩) (by first | (simp; done) | (simp; omega))).trans (by simp [go_sem]), (show Below w.heap.size w _ from (by repeat (first | exact Below.refl _ _ | refine below_dN ?_ _ | refine Below.setCell ?_ (by first | (simp; done) | (simp; omega)) _ | refine Below.alloc ?_ (by first | (simp; done) | (simp; omega)) _))).trans (h1.mono (by simp; omega))⟩
  clear h1
  go_wp2_with fail
  refine (shown6_any _).mono ?_
  rintro e w2 ⟨rfl, h2⟩
  replace c1 := (h2.cell (by (try dsimp only); omega)).trans c1
  replace c2 := (h2.cell (by (try dsimp only); omega)).trans c2
  replace c3 := (h2.cell (by (try dsimp only); omega)).trans c3
  replace c4 := (h2.cell (by (try dsimp only); omega)).trans c4
  replace c5 := (h2.cell (by (try dsimp only); omega)).trans c5
  replace c6 := (h2.cell (by (try dsimp only); omega)).trans c6
  replace c7 := (h2.cell (by (try dsimp only); omega)).trans c7
  replace c8 := (h2.cell (by (try dsimp only); omega)).trans c8
  replace hb0 := hb0.trans (h2.mono (by omega))
  have z2 := h2.size
  clear h2
  go_wp2_with fail
  refine (PUT.out none (some ⟨w2.heap.size, 0, none⟩) 3 _ (pcs_nil _ _ _) (cor_lit' _ _ _ _ [(x, y), (u, v), (a, b)] _ rfl rfl (by simp))).mono ?_
  rintro e w3 ⟨A, c, rfl, hp, h3⟩
  have h3b := (show Below w2.heap.size w2 _ from (Below.refl _ _).alloc (by simp) _).trans (h3.mono (by simp))
  replace c1 := (h3b.cell (by (try dsimp only); omega)).trans c1
  replace c2 := (h3b.cell (by (try dsimp only); omega)).trans c2
  replace c3 := (h3b.cell (by (try dsimp only); omega)).trans c3
  replace c4 := (h3b.cell (by (try dsimp only); omega)).trans c4
  replace c5 := (h3b.cell (by (try dsimp only); omega)).trans c5
  replace c6 := (h3b.cell (by (try dsimp only); omega)).trans c6
  replace c7 := (h3b.cell (by (try dsimp only); omega)).trans c7
  replace c8 := (h3b.cell (by (try dsimp only); omega)).trans c8
  replace hb0 := hb0.trans (h3b.mono (by omega))
  have z3 := h3b.size
  clear h3 h3b hp
  go_wp2_with fail
  refine (SD.out _).mono ?_
  rintro e w4 ⟨rfl, h4⟩
  replace c1 := (h4.cell (by (try dsimp only); omega)).trans c1
  replace c2 := (h4.cell (by (try dsimp only); omega)).trans c2
  replace c3 := (h4.cell (by (try dsimp only); omega)).trans c3
  replace c4 := (h4.cell (by (try dsimp only); omega)).trans c4
  replace c5 := (h4.cell (by (try dsimp only); omega)).trans c5
  replace c6 := (h4.cell (by (try dsimp only); omega)).trans c6
  replace c7 := (h4.cell (by (try dsimp only); omega)).trans c7
  replace c8 := (h4.cell (by (try dsimp only); omega)).trans c8
  replace hb0 := hb0.trans (h4.mono (by omega))
  clear h4
  go_wp2
  go_ret
  exact ⟨rfl, hb0⟩

theorem three_put (x y u v a b s t : Int) (w : World) (hb : boundedV [(x, y), (u, v), (a, b), (s, t)] = true) (h0 : sideV x y u v a b ≠ 0) :
    Calls Try.prog 5 #[P2 x y, P2 u v, P2 a b, P2 s t] w fun e w' => e = .returned (.bool true) ∧ Below w.heap.size w w' := by
  obtain ⟨n1, n2, n3, n4⟩ := bounded_four.1 hb
  have HB := Lib.hid hb
  clear hb
  obtain ⟨p, hp1, hp16, hpn, hph, hpa⟩ := put_three (s := s) (t := t) n1 n2 n3 h0
  have PUT0 := fun A B cb w (hp : Pcs w w.heap.size A []) (hr : Cor w w.heap.size B [(x, y), (u, v), (a, b)]) => pput_any A [] B cb [(x, y), (u, v), (a, b)] w hp hr (by simp) (by simp) (near_three n1 n2 n3)
  simp only [hp1, List.nil_append] at PUT0
  have PUT := Lib.hid PUT0
  clear PUT0
  have SD0 := fun w => r5side_any x y u v a b w n1.1 n1.2 n2.1 n2.2 n3.1 n3.2
  obtain ⟨sd, hsd⟩ : ∃ sd, sideV x y u v a b = sd := ⟨_, rfl⟩
  rw [hsd] at h0
  simp only [hsd] at SD0
  have q0 : (sd == 0) = false := by simp; omega
  have SD := Lib.hid SD0
  clear SD0
  have HAS0 := fun A cap w (hr : Cor w w.heap.size A p) => phas_any A cap p s t w hr hp16 hpn n4.1 n4.2
  simp only [hph] at HAS0
  have WI0 := fun w => r5within_any x y u v a b s t w n1.1 n1.2 n2.1 n2.2 n3.1 n3.2 n4.1 n4.2
  obtain ⟨bw, hbw⟩ : ∃ bw, withinV x y u v a b s t = bw := ⟨_, rfl⟩
  simp only [hbw] at HAS0 WI0
  have HAS := Lib.hid HAS0
  have WI := Lib.hid WI0
  clear HAS0 WI0
  have AR0 := fun A cap w (hr : Cor w w.heap.size A p) => parea_any A cap p w hr hp16 hpn
  obtain ⟨ar, har⟩ : ∃ ar, areaV p = ar := ⟨_, rfl⟩
  rw [har] at hpa
  simp only [har] at AR0
  have AR := Lib.hid AR0
  have q1 : decide (0 < ar) = true := by simpa using hpa
  have q2 : decide (ar > 0) = true := by simpa using hpa
  have q3 : (bw == bw) = true := by simp
  have hp3 : 0 < p.length := by rcases p with _ | ⟨_, _⟩ <;> simp_all [areaV, areaE, edges, rot]; subst har; simp [wrapA] at hpa
  clear AR0 n1 n2 n3 n4 h0 hsd hbw har hph hp1 hpn hpa
  go_enter Try.func5, Try.ntmps5
  go_wp2_with fail
  refine (bounded_any (some ⟨w.heap.size + 1 + 1 + 1 + 1, 0, none⟩) 4 [(x, y), (u, v), (a, b), (s, t)] _ (cor_lit' _ _ _ _ _ _ (by simp) rfl (by simp)) (by simp)).mono ?_
  rintro e w1 ⟨rfl, h1⟩
  have z1 := h1.size
  simp at z1
  rw [HB.out]
  obtain ⟨c1, c2, c3, c4, c5, c6, c7, c8, hb0⟩ : w1.cell? ⟨w.heap.size, 0, none⟩ = some (.int .i64 (x)) ∧ w1.cell? ⟨w.heap.size, 1, none⟩ = some (.int .i64 (y)) ∧ w1.cell? ⟨w.heap.size + 1, 0, none⟩ = some (.int .i64 (u)) ∧ w1.cell? ⟨w.heap.size + 1, 1, none⟩ = some (.int .i64 (v)) ∧ w1.cell? ⟨w.heap.size + 1 + 1, 0, none⟩ = some (.int .i64 (a)) ∧ w1.cell? ⟨w.heap.size + 1 + 1, 1, none⟩ = some (.int .i64 (b)) ∧ w1.cell? ⟨w.heap.size + 1 + 1 + 1, 0, none⟩ = some (.int .i64 (s)) ∧ w1.cell? ⟨w.heap.size + 1 + 1 + 1, 1, none⟩ = some (.int .i64 (t)) ∧ Below w.heap.size w w1 := ⟨(h1.cell (p := ⟨w.heap.size, 0, none⟩) (by first | (simp; done) | (simp; omega))).trans (by simp [go_sem]), (h1.cell (p := ⟨w.heap.size, 1, none⟩) (by first | (simp; done) | (simp; omega))).trans (by simp [go_sem]), (h1.cell (p := ⟨w.heap.size + 1, 0, none⟩) (by first | (simp; done) | (simp; omega))).trans (by simp [go_sem]), (h1.cell (p := ⟨w.heap.size + 1, 1, none⟩) (by first | (simp; done) | (simp; omega))).trans (by simp [go_sem]), (h1.cell (p := ⟨w.heap.size + 1 + 1, 0, none⟩) (by first | (simp; done) | (simp; omega))).trans (by simp [go_sem]), (h1.cell (p := ⟨w.heap.size + 1 + 1, 1, none⟩) (by first | (simp; done) | (simp; omega))).trans (by simp [go_sem]), (h1.cell (p := ⟨w.heap.size + 1 + 1 + 1, 0, none⟩) (by first | (simp; done) | (simp; omega))).trans (by simp [go_sem]), (h1.cell (p := ⟨w.heap.size + 1 + 1 + 1, 1, none⟩) (by first | (simp; done) | (simp; omega))).trans (by simp [go_sem]), (show Below w.heap.size w _ from (by repeat (first | exact Below.refl _ _ | refine below_dN ?_ _ | refine Below.setCell ?_ (by first | (simp; done) | (simp; omega)) _ | refine Below.alloc ?_ (by first | (simp; done) | (simp; omega)) _))).trans (h1.mono (by simp; omega))⟩
  clear h1
  go_wp2_with fail
  refine (shown6_any _).mono ?_
  rintro e w2 ⟨rfl, h2⟩
  replace c1 := (h2.cell (by (try dsimp only); omega)).trans c1
  replace c2 := (h2.cell (by (try dsimp only); omega)).trans c2
  replace c3 := (h2.cell (by (try dsimp only); omega)).trans c3
  replace c4 := (h2.cell (by (try dsimp only); omega)).trans c4
  replace c5 := (h2.cell (by (try dsimp only); omega)).trans c5
  replace c6 := (h2.cell (by (try dsimp only); omega)).trans c6
  replace c7 := (h2.cell (by (try dsimp only); omega)).trans c7
  replace c8 := (h2.cell (by (try dsimp only); omega)).trans c8
  replace hb0 := hb0.trans (h2.mono (by omega))
  have z2 := h2.size
  clear h2
  go_wp2_with fail
  refine (PUT.out none (some ⟨w2.heap.size, 0, none⟩) 3 _ (pcs_nil _ _ _) (cor_lit' _ _ _ _ [(x, y), (u, v), (a, b)] _ rfl rfl (by simp))).mono ?_
  rintro e w3 ⟨A, c, rfl, hp, h3⟩
  have h3b := (show Below w2.heap.size w2 _ from (Below.refl _ _).alloc (by simp) _).trans (h3.mono (by simp))
  replace c1 := (h3b.cell (by (try dsimp only); omega)).trans c1
  replace c2 := (h3b.cell (by (try dsimp only); omega)).trans c2
  replace c3 := (h3b.cell (by (try dsimp only); omega)).trans c3
  replace c4 := (h3b.cell (by (try dsimp only); omega)).trans c4
  replace c5 := (h3b.cell (by (try dsimp only); omega)).trans c5
  replace c6 := (h3b.cell (by (try dsimp only); omega)).trans c6
  replace c7 := (h3b.cell (by (try dsimp only); omega)).trans c7
  replace c8 := (h3b.cell (by (try dsimp only); omega)).trans c8
  replace hb0 := hb0.trans (h3b.mono (by omega))
  have z3 := h3b.size
  clear h3 h3b
  obtain ⟨ad, a2, ca, rfl, hB, h16, c9, hc⟩ := hp.at_ (i := 0) (p := p) rfl
  rw [add_zero] at c9
  obtain ⟨ad2, rfl, _⟩ := hc hp3
  have HC3 := Lib.hid hc
  clear hp hc h16
  go_wp2_with fail
  refine (SD.out _).mono ?_
  rintro e w0 ⟨rfl, h4⟩
  replace c1 := (h4.cell (by (try dsimp only); omega)).trans c1
  replace c2 := (h4.cell (by (try dsimp only); omega)).trans c2
  replace c3 := (h4.cell (by (try dsimp only); omega)).trans c3
  replace c4 := (h4.cell (by (try dsimp only); omega)).trans c4
  replace c5 := (h4.cell (by (try dsimp only); omega)).trans c5
  replace c6 := (h4.cell (by (try dsimp only); omega)).trans c6
  replace c7 := (h4.cell (by (try dsimp only); omega)).trans c7
  replace c8 := (h4.cell (by (try dsimp only); omega)).trans c8
  replace hb0 := hb0.trans (h4.mono (by omega))
  replace c9 := (h4.cell hB).trans c9
  have HC := Lib.hid (HC3.out.calls h4)
  have hs := h4.size
  replace hB := Nat.lt_of_lt_of_le hB hs
  clear h4 HC3
  go_wp2_with fail
  first | (go_region_held3 (fun w' => w'.cell? ⟨w.heap.size, 0, none⟩ = some (.int .i64 (x)) ∧ w'.cell? ⟨w.heap.size, 1, none⟩ = some (.int .i64 (y)) ∧ w'.cell? ⟨w.heap.size + 1, 0, none⟩ = some (.int .i64 (u)) ∧ w'.cell? ⟨w.heap.size + 1, 1, none⟩ = some (.int .i64 (v)) ∧ w'.cell? ⟨w.heap.size + 1 + 1, 0, none⟩ = some (.int .i64 (a)) ∧ w'.cell? ⟨w.heap.size + 1 + 1, 1, none⟩ = some (.int .i64 (b)) ∧ w'.cell? ⟨w.heap.size + 1 + 1 + 1, 0, none⟩ = some (.int .i64 (s)) ∧ w'.cell? ⟨w.heap.size + 1 + 1 + 1, 1, none⟩ = some (.int .i64 (t)) ∧ w'.cell? ad = some (.slice (some ad2) p.length ca) ∧ Below w0.heap.size w0 w') ((first | assumption | exact ⟨by simp [*], by simp [*], by simp [*], by simp [*], by simp [*], by simp [*], by simp [*], by simp [*], by simp [*], (Below.refl _ _).drew⟩ | exact keep9 ‹_› hb (by (try dsimp only); omega) (by (try dsimp only); omega) (by (try dsimp only); omega) (by (try dsimp only); omega) (by (try dsimp only); omega) (by (try dsimp only); omega) (by (try dsimp only); omega) (by (try dsimp only); omega) (by (try dsimp only); omega) | exact keepA9 ‹_› _ (by (try dsimp only); omega) (by (try dsimp only); omega) (by (try dsimp only); omega) (by (try dsimp only); omega) (by (try dsimp only); omega) (by (try dsimp only); omega) (by (try dsimp only); omega) (by (try dsimp only); omega) (by (try dsimp only); omega) | exact keepS9 (keepS9 ‹_› _ _ (by (try dsimp only); omega) (by (try dsimp only); omega) (by (try dsimp only); omega) (by (try dsimp only); omega) (by (try dsimp only); omega) (by (try dsimp only); omega) (by (try dsimp only); omega) (by (try dsimp only); omega) (by (try dsimp only); omega) (by (try dsimp only); omega)) _ _ (by (try dsimp only); omega) (by (try dsimp only); omega) (by (try dsimp only); omega) (by (try dsimp only); omega) (by (try dsimp only); omega) (by (try dsimp only); omega) (by (try dsimp only); omega) (by (try dsimp only); omega) (by (try dsimp only); omega) (by (try dsimp only); omega))) ((first | (go_at_call 17; refine (HAS.out _ _ _ (HC.out.calls (by exact belK9 (by assumption)))).mono ?_; rintro e w' ⟨rfl, hb⟩) | (go_at_call 27; refine (WI.out _).mono ?_; rintro e w' ⟨rfl, hb⟩) | (go_at_call 13; refine (AR.out _ _ _ (HC.out.calls (by exact belK9 (by assumption)))).mono ?_; rintro e w' ⟨rfl, hb⟩)))) | fail
  all_goals
    have hF := belK9 ‹_ ∧ _ ∧ _ ∧ _ ∧ _ ∧ _ ∧ _ ∧ _ ∧ _ ∧ Below w0.heap.size w0 _›
    go_wp2
    go_ret
    exact ⟨rfl, hb0.trans (hF.mono (by omega))⟩

theorem walk_PieceThree (x y u v a b s t : Int) (w : World) :
    Calls Try.prog 5 #[P2 x y, P2 u v, P2 a b, P2 s t] w fun e w' => e = .returned (.bool true) ∧ Below w.heap.size w w' := by
  cases hb : boundedV [(x, y), (u, v), (a, b), (s, t)]
  · exact three_far x y u v a b s t w hb
  · by_cases h0 : sideV x y u v a b = 0
    · exact three_flat x y u v a b s t w hb h0
    · exact three_put x y u v a b s t w hb h0
end Go.Proofs.Ytlgfnhapjhoelaa
