/- The walk of PieceTells: areas, boxes, corners, shifted ones and what is put, the program's and the document's. -/
import Derived.Test.YtlgfnhapjhoelaaLaw6S
namespace Go.Proofs.Ytlgfnhapjhoelaa
open Go.RowKit
set_option linter.unusedVariables false
set_option linter.unusedSimpArgs false
set_option maxHeartbeats 4000000
set_option maxRecDepth 100000

theorem near_two6 {s t a b : Int} (h : boundedV [(s, t), (a, b)] = true) : NearP (s, t) ∧ NearP (a, b) := by
  unfold boundedV allNear at h
  simp only [List.all_cons, List.all_nil, Bool.and_true, Bool.and_eq_true, nearB_iff] at h
  exact ⟨h.1.1, h.1.2⟩
theorem pcs_lit {w : World} {g cap : Nat} {A : Option Addr} {l : List Pnt} (hc : w.cell? ⟨g, 0, none⟩ = some (.slice A l.length cap)) (hg : g < w.heap.size) (hr : Cor w w.heap.size A l) (hl : l.length ≤ 16) : Pcs w w.heap.size (some ⟨g, 0, none⟩) [l] := by
  refine ⟨[.slice A l.length cap], rfl, fun _ => ⟨⟨g, 0, none⟩, rfl, hg, fun i u hu => ?_⟩, fun i p hp => ?_⟩
  · match i, hu with
    | 0, hu => rw [add_zero]; cases hu; exact hc
    | i + 1, hu => simp at hu
  · match i, hp with
    | 0, hp => cases hp; exact ⟨hl, A, cap, rfl, hr⟩
    | i + 1, hp => simp at hp
theorem its_pcs (A : Option Addr) (cap : Nat) (ps : List (List Pnt)) (w : World) (hp : Pcs w w.heap.size A ps) (hl : ps.length ≤ 16) :
    Calls Try.prog 23 #[.slice A ps.length cap] w fun e w' => ∃ A' c', e = .returned (.slice A' ps.length c') ∧ Pcs w' w'.heap.size A' ps ∧ Below w.heap.size w w' := by
  obtain ⟨vs, hvl, hv, hvc⟩ := hp
  rw [← hvl]
  refine (its_any A cap vs w hv (by omega) ?_).mono ?_
  · intro u hu
    obtain ⟨i, hi⟩ := List.mem_iff_getElem?.1 hu
    have hi2 := (List.getElem?_eq_some_iff.1 hi).1
    obtain ⟨p, hp⟩ : ∃ p, ps[i]? = some p := ⟨_, List.getElem?_eq_getElem (by omega)⟩
    obtain ⟨_, a, c, h1, _⟩ := hvc i p hp
    rw [h1] at hi
    exact ⟨a, _, c, (Option.some.inj hi).symm⟩
  · rintro e w' ⟨v, rfl, hrow, hb⟩
    obtain ⟨A', c', rfl, -, hv'⟩ := vals_of_row hrow
    refine ⟨A', c', rfl, ⟨vs, hvl, hv', fun i p hp => ?_⟩, hb⟩
    obtain ⟨h16, a, c, h1, h2⟩ := hvc i p hp
    exact ⟨h16, a, c, h1, h2.calls hb⟩
theorem put_pcs (g ca : Nat) (A : Option Addr) (cap : Nat) (l : List Pnt) (w : World) (hc : w.cell? ⟨g, 0, none⟩ = some (.slice A l.length ca)) (hg : g < w.heap.size) (hr : Cor w w.heap.size A l) (hl : l.length ≤ 16) (hn : allNear l = true) (c1 : Nat) :
    Calls Try.prog 25 #[.slice (some ⟨g, 0, none⟩) 1 c1, .slice A l.length cap] w fun e w' => ∃ A' c', e = .returned (.slice A' ([l] ++ putL l).length c') ∧ Pcs w' w'.heap.size A' ([l] ++ putL l) ∧ Below w.heap.size w w' := by
  refine (r6put_any ⟨g, 0, none⟩ c1 A l.length ca A cap l w hg hc hr hl hn).mono ?_
  rintro e w' ⟨g', m, c, rfl, hg', h0, hP, hb⟩
  have hq16 : ∀ q, putV l = some q → q.length ≤ 16 := by
    intro q hq
    unfold putV at hq
    split at hq
    · cases hq; exact hl
    · split at hq
      · cases hq; rw [List.length_reverse]; exact hl
      · cases hq
  rw [putL_V]
  cases hv : putV l with
  | none =>
    rw [hv] at hP
    cases hP
    refine ⟨_, c, rfl, ?_, hb⟩
    exact pcs_lit h0 hg' (hr.calls hb) hl
  | some q =>
    rw [hv] at hP
    obtain ⟨rfl, A2, c2, h1, hc2⟩ := hP
    refine ⟨_, c, rfl, ⟨[.slice A l.length ca, .slice A2 q.length c2], rfl, fun _ => ⟨⟨g', 0, none⟩, rfl, hg', fun i u hu => ?_⟩, fun i p hp => ?_⟩, hb⟩
    · match i, hu with
      | 0, hu => rw [add_zero]; cases hu; exact h0
      | 1, hu => cases hu; exact h1
      | i + 2, hu => simp at hu
    · match i, hp with
      | 0, hp => cases hp; exact ⟨hl, A, ca, rfl, hr.calls hb⟩
      | 1, hp => cases hp; exact ⟨hq16 _ hv, A2, c2, rfl, hc2⟩
      | i + 2, hp => simp at hp
theorem eq_pt6 (x y : Int) (w : World) :
    (binOp .eql 24 (P2 x y) (P2 x y)).run Try.prog w = .ok (.bool true) w := by
  simp [go_sem]
theorem shift_cor (A : Option Addr) (cap : Nat) (l : List Pnt) (s t : Int) (w : World) (hr : Cor w w.heap.size A l) (hl : l.length ≤ 16) (hn : allNear l = true) (hs : -1073741824 ≤ s ∧ s ≤ 1073741824) (ht : -1073741824 ≤ t ∧ t ≤ 1073741824) :
    Calls Try.prog 21 #[.slice A l.length cap, P2 s t] w fun e w' => ∃ A' c, e = .returned (.slice A' l.length c) ∧ Cor w' w'.heap.size A' (l.map (shP (s, t))) ∧ Below w.heap.size w w' := by
  refine (r6shift_any A cap l s t w hr hl hn hs ht).mono ?_
  rintro e w' ⟨v, rfl, -, hrow, hb⟩
  obtain ⟨A5, k5, rfl, h5, hc5, -⟩ := cor_of_row hrow
  exact ⟨A5, k5, by rw [List.length_map], hc5, hb⟩
theorem put_few (l : List Pnt) : ([l] ++ putL l).length ≤ 16 := by
  unfold putL; split
  · simp
  · split <;> simp
theorem box_tuple (l : List Pnt) : ∃ lx ly hx hy : Int, boxV l = .tuple #[P2 lx ly, P2 hx hy] := by
  cases l with
  | nil => exact ⟨0, 0, 0, 0, rfl⟩
  | cons p t => exact ⟨_, _, _, _, rfl⟩

theorem tells6_far (A : Option Addr) (cap : Nat) (l : List Pnt) (s t a b : Int) (w : World) (hr : Cor w w.heap.size A l) (hl : l.length ≤ 9223372036854775807) (hb : boundedV l = false) :
    Calls Try.prog 3 #[.slice A l.length cap, P2 s t, P2 a b] w fun e w' => e = .returned (.bool true) ∧ Below w.heap.size w w' := by
  have HR := Lib.hid hr
  clear hr
  obtain ⟨n, hn⟩ : ∃ n, l.length = n := ⟨_, rfl⟩
  rw [hn] at hl ⊢
  have HN := Lib.hid hn
  have BND := Lib.hid (fun w hr => (hn ▸ bounded_any A cap l w hr (hn.symm ▸ hl) : Calls Try.prog 9 #[.slice A n cap] w _))
  have HB := Lib.hid hb
  clear hb hn
  go_enter Try.func3, Try.ntmps3
  go_wp2_with fail
  refine (BND.out _ ((HR.out.step (((Below.refl _ _).alloc (Nat.le_refl _) _).alloc (by simp) _)).more (by simp; omega))).mono ?_
  rintro e w1 ⟨rfl, h1⟩
  rw [HB.out]
  have z1 := h1.size
  simp at z1
  obtain ⟨c1, c2, c3, c4, hb0⟩ : w1.cell? ⟨w.heap.size, 0, none⟩ = some (.int .i64 (s)) ∧ w1.cell? ⟨w.heap.size, 1, none⟩ = some (.int .i64 (t)) ∧ w1.cell? ⟨w.heap.size + 1, 0, none⟩ = some (.int .i64 (a)) ∧ w1.cell? ⟨w.heap.size + 1, 1, none⟩ = some (.int .i64 (b)) ∧ Below w.heap.size w w1 := ⟨(h1.cell (p := ⟨w.heap.size, 0, none⟩) (by first | (simp; done) | (simp; omega) | omega)).trans (by simp [go_sem]), (h1.cell (p := ⟨w.heap.size, 1, none⟩) (by first | (simp; done) | (simp; omega) | omega)).trans (by simp [go_sem]), (h1.cell (p := ⟨w.heap.size + 1, 0, none⟩) (by first | (simp; done) | (simp; omega) | omega)).trans (by simp [go_sem]), (h1.cell (p := ⟨w.heap.size + 1, 1, none⟩) (by first | (simp; done) | (simp; omega) | omega)).trans (by simp [go_sem]), (show Below w.heap.size w _ from (by repeat (first | exact Below.refl _ _ | assumption | refine below_dN ?_ _ | refine Below.setCell ?_ (by first | (simp; done) | (simp; omega) | omega) _ | refine Below.alloc ?_ (by first | (simp; done) | (simp; omega) | omega) _))).trans (h1.mono (by simp; omega))⟩
  clear h1
  go_wp2_with fail
  refine (shown6_any _).mono ?_
  rintro e w2 ⟨rfl, h2⟩
  go_wp2
  go_ret
  exact ⟨rfl, hb0.trans (h2.mono hb0.size)⟩

theorem tells6_far2 (A : Option Addr) (cap : Nat) (l : List Pnt) (s t a b : Int) (w : World) (hr : Cor w w.heap.size A l) (hl : l.length ≤ 9223372036854775807) (hb : boundedV l = true) (hq : boundedV [(s, t), (a, b)] = false) :
    Calls Try.prog 3 #[.slice A l.length cap, P2 s t, P2 a b] w fun e w' => e = .returned (.bool true) ∧ Below w.heap.size w w' := by
  have HQ := Lib.hid hq
  clear hq
  have HR := Lib.hid hr
  clear hr
  obtain ⟨n, hn⟩ : ∃ n, l.length = n := ⟨_, rfl⟩
  rw [hn] at hl ⊢
  have HN := Lib.hid hn
  have BND := Lib.hid (fun w hr => (hn ▸ bounded_any A cap l w hr (hn.symm ▸ hl) : Calls Try.prog 9 #[.slice A n cap] w _))
  have HB := Lib.hid hb
  clear hb hn
  go_enter Try.func3, Try.ntmps3
  go_wp2_with fail
  refine (BND.out _ ((HR.out.step (((Below.refl _ _).alloc (Nat.le_refl _) _).alloc (by simp) _)).more (by simp; omega))).mono ?_
  rintro e w1 ⟨rfl, h1⟩
  rw [HB.out]
  have z1 := h1.size
  simp at z1
  obtain ⟨c1, c2, c3, c4, hb0⟩ : w1.cell? ⟨w.heap.size, 0, none⟩ = some (.int .i64 (s)) ∧ w1.cell? ⟨w.heap.size, 1, none⟩ = some (.int .i64 (t)) ∧ w1.cell? ⟨w.heap.size + 1, 0, none⟩ = some (.int .i64 (a)) ∧ w1.cell? ⟨w.heap.size + 1, 1, none⟩ = some (.int .i64 (b)) ∧ Below w.heap.size w w1 := ⟨(h1.cell (p := ⟨w.heap.size, 0, none⟩) (by first | (simp; done) | (simp; omega) | omega)).trans (by simp [go_sem]), (h1.cell (p := ⟨w.heap.size, 1, none⟩) (by first | (simp; done) | (simp; omega) | omega)).trans (by simp [go_sem]), (h1.cell (p := ⟨w.heap.size + 1, 0, none⟩) (by first | (simp; done) | (simp; omega) | omega)).trans (by simp [go_sem]), (h1.cell (p := ⟨w.heap.size + 1, 1, none⟩) (by first | (simp; done) | (simp; omega) | omega)).trans (by simp [go_sem]), (show Below w.heap.size w _ from (by repeat (first | exact Below.refl _ _ | assumption | refine below_dN ?_ _ | refine Below.setCell ?_ (by first | (simp; done) | (simp; omega) | omega) _ | refine Below.alloc ?_ (by first | (simp; done) | (simp; omega) | omega) _))).trans (h1.mono (by simp; omega))⟩
  clear h1
  go_wp2_with fail
  refine (bounded_any (some ⟨w1.heap.size, 0, none⟩) 2 [(s, t), (a, b)] _ (cor_lit' _ _ _ _ [(s, t), (a, b)] _ rfl rfl (by simp)) (by simp)).mono ?_
  rintro e w2 ⟨rfl, h2⟩
  rw [HQ.out]
  have h2b := (show Below w1.heap.size w1 _ from (Below.refl _ _).alloc (Nat.le_refl _) _).trans (h2.mono (by simp))
  replace c1 := (h2b.cell (by (try dsimp only); omega)).trans c1
  replace c2 := (h2b.cell (by (try dsimp only); omega)).trans c2
  replace c3 := (h2b.cell (by (try dsimp only); omega)).trans c3
  replace c4 := (h2b.cell (by (try dsimp only); omega)).trans c4
  replace hb0 := hb0.trans (h2b.mono (by omega))
  have z2 := h2b.size
  clear h2 h2b
  go_wp2_with fail
  refine (shown6_any _).mono ?_
  rintro e w3 ⟨rfl, h3⟩
  go_wp2
  go_ret
  exact ⟨rfl, hb0.trans (h3.mono hb0.size)⟩

theorem tells6_main (A : Option Addr) (cap : Nat) (l : List Pnt) (s t a b : Int) (w : World) (hr : Cor w w.heap.size A l) (hl : l.length ≤ 9223372036854775807) (hb : boundedV l = true) (hq : boundedV [(s, t), (a, b)] = true) :
    Calls Try.prog 3 #[.slice A l.length cap, P2 s t, P2 a b] w fun e w' => e = .returned (.bool true) ∧ Below w.heap.size w w' := by
  have hb16 := near_16 hb
  obtain ⟨n1, n2⟩ := near_two6 hq
  unfold NearP at n1 n2
  dsimp only at n1 n2
  obtain ⟨lx, ly, hx, hy, hbox⟩ := box_tuple l
  obtain ⟨m, hm⟩ : ∃ m, l.map (shP (a, b)) = m := ⟨_, rfl⟩
  have hml : m.length = l.length := by rw [← hm]; simp
  obtain ⟨ps, hps⟩ : ∃ ps, [l] ++ putL l = ps := ⟨_, rfl⟩
  have hpl : ps.length ≤ 16 := by rw [← hps]; exact put_few l
  have SH0 := fun w hr => pshift_any A cap l a b w hr hb16.1 hb16.2 n2.1 n2.2
  have RS0 := fun w hr => shift_cor A cap l a b w hr hb16.1 hb16.2 n2.1 n2.2
  have SO0 := fun A A2 c c2 w hr hr2 => sameone_any A A2 c c2 m m w hr hr2 (by rw [hml]; omega) (by rw [hml]; omega)
  rw [show sameV m m = true by unfold sameV; simp] at SO0
  have BX0 := fun w hr => pbox_any A cap l w hr hb16.1 hb16.2
  have RB0 := fun w hr => r6box_any A cap l w hr (by have := hb16.1; omega)
  rw [hbox] at BX0 RB0
  have AR0 := fun w hr => parea_any A cap l w hr hb16.1 hb16.2
  have RA0 := fun w hr => r6area_any A cap l w hr (by have := hb16.1; omega) hb16.2
  have CV0 := fun w hr => pconvex_any A cap l w hr hb16.1 hb16.2
  have RC0 := fun w hr => r6convex_any A cap l w hr (by have := hb16.1; omega) hb16.2
  have HS0 := fun w hr => phas_any A cap l s t w hr hb16.1 hb16.2 n1.1 n1.2
  have RH0 := fun w hr => r6has_any A cap l s t w hr (by have := hb16.1; omega) hb16.2 n1.1 n1.2
  have PU0 := fun g w (hc : w.cell? ⟨g, 0, none⟩ = some (.slice A l.length cap)) hg hr => pput_any (some ⟨g, 0, none⟩) [l] A cap l w (pcs_lit hc hg hr hb16.1) hr (by simp) hb16.1 hb16.2
  have RP0 := fun g w hc hg hr => put_pcs g cap A cap l w hc hg hr hb16.1 hb16.2 1
  have IT0 := fun A c w hp => its_pcs A c ps w hp hpl
  have SA0 := fun A A2 c c2 w hr hr2 => same_any A A2 c c2 ps ps w hr hr2 hpl hpl
  rw [show sameVs ps ps = true by unfold sameVs; simp] at SA0
  simp only [hps, List.length_singleton] at PU0 RP0
  simp only [hm] at SH0 RS0
  obtain ⟨cv, hcv⟩ : ∃ v, convexV l = v := ⟨_, rfl⟩
  obtain ⟨hv, hhv⟩ : ∃ v, hasV l (s, t) = v := ⟨_, rfl⟩
  obtain ⟨av, hav⟩ : ∃ v, areaV l = v := ⟨_, rfl⟩
  obtain ⟨M, hM⟩ : ∃ v, ps.length = v := ⟨_, rfl⟩
  simp only [hcv] at CV0 RC0
  simp only [hhv] at HS0 RH0
  simp only [hav] at AR0 RA0
  simp only [hM] at PU0 RP0 IT0 SA0
  clear hcv hhv hav hm hps hbox hM hpl
  have HR := Lib.hid hr
  clear hr
  obtain ⟨n, hn⟩ : ∃ n, l.length = n := ⟨_, rfl⟩
  rw [hn] at hl ⊢
  have HN := Lib.hid hn
  have BND := Lib.hid (fun w hr => (hn ▸ bounded_any A cap l w hr (hn.symm ▸ hl) : Calls Try.prog 9 #[.slice A n cap] w _))
  rw [hml, hn] at SO0
  rw [hn] at SH0 RS0 BX0 RB0 AR0 RA0 CV0 RC0 HS0 RH0
  simp only [hn] at PU0 RP0
  have SH := Lib.hid SH0
  have RS := Lib.hid RS0
  have SO := Lib.hid SO0
  have BX := Lib.hid BX0
  have RB := Lib.hid RB0
  have AR := Lib.hid AR0
  have RA := Lib.hid RA0
  have CV := Lib.hid CV0
  have RC := Lib.hid RC0
  have HS := Lib.hid HS0
  have RH := Lib.hid RH0
  have PU := Lib.hid PU0
  have RP := Lib.hid RP0
  have IT := Lib.hid IT0
  have SA := Lib.hid SA0
  have HB := Lib.hid hb
  have HQ := Lib.hid hq
  clear hb hq hn hml hb16 n1 n2 SH0 RS0 SO0 BX0 RB0 AR0 RA0 CV0 RC0 HS0 RH0 PU0 RP0 IT0 SA0
  go_enter Try.func3, Try.ntmps3
  go_wp2_with fail
  refine (BND.out _ ((HR.out.step (((Below.refl _ _).alloc (Nat.le_refl _) _).alloc (by simp) _)).more (by simp; omega))).mono ?_
  rintro e w1 ⟨rfl, h1⟩
  rw [HB.out]
  have z1 := h1.size
  simp at z1
  obtain ⟨c1, c2, c3, c4, hb0⟩ : w1.cell? ⟨w.heap.size, 0, none⟩ = some (.int .i64 (s)) ∧ w1.cell? ⟨w.heap.size, 1, none⟩ = some (.int .i64 (t)) ∧ w1.cell? ⟨w.heap.size + 1, 0, none⟩ = some (.int .i64 (a)) ∧ w1.cell? ⟨w.heap.size + 1, 1, none⟩ = some (.int .i64 (b)) ∧ Below w.heap.size w w1 := ⟨(h1.cell (p := ⟨w.heap.size, 0, none⟩) (by first | (simp; done) | (simp; omega) | omega)).trans (by simp [go_sem]), (h1.cell (p := ⟨w.heap.size, 1, none⟩) (by first | (simp; done) | (simp; omega) | omega)).trans (by simp [go_sem]), (h1.cell (p := ⟨w.heap.size + 1, 0, none⟩) (by first | (simp; done) | (simp; omega) | omega)).trans (by simp [go_sem]), (h1.cell (p := ⟨w.heap.size + 1, 1, none⟩) (by first | (simp; done) | (simp; omega) | omega)).trans (by simp [go_sem]), (show Below w.heap.size w _ from (by repeat (first | exact Below.refl _ _ | assumption | refine below_dN ?_ _ | refine Below.setCell ?_ (by first | (simp; done) | (simp; omega) | omega) _ | refine Below.alloc ?_ (by first | (simp; done) | (simp; omega) | omega) _))).trans (h1.mono (by simp; omega))⟩
  clear h1
  go_wp2_with fail
  refine (bounded_any (some ⟨w1.heap.size, 0, none⟩) 2 [(s, t), (a, b)] _ (cor_lit' _ _ _ _ [(s, t), (a, b)] _ rfl rfl (by simp)) (by simp)).mono ?_
  rintro e w2 ⟨rfl, h2⟩
  rw [HQ.out]
  have h2b := (show Below w1.heap.size w1 _ from (Below.refl _ _).alloc (Nat.le_refl _) _).trans (h2.mono (by simp))
  replace c1 := (h2b.cell (by (try dsimp only); omega)).trans c1
  replace c2 := (h2b.cell (by (try dsimp only); omega)).trans c2
  replace c3 := (h2b.cell (by (try dsimp only); omega)).trans c3
  replace c4 := (h2b.cell (by (try dsimp only); omega)).trans c4
  replace hb0 := hb0.trans (h2b.mono (by omega))
  have z2 := h2b.size
  clear h2 h2b
  go_wp2_with fail
  refine (shown6_any _).mono ?_
  rintro e w3 ⟨rfl, h3⟩
  replace c1 := (h3.cell (by (try dsimp only); omega)).trans c1
  replace c2 := (h3.cell (by (try dsimp only); omega)).trans c2
  replace c3 := (h3.cell (by (try dsimp only); omega)).trans c3
  replace c4 := (h3.cell (by (try dsimp only); omega)).trans c4
  replace hb0 := hb0.trans (h3.mono (by omega))
  have z3 := h3.size
  clear h3
  go_wp2_with fail
  refine (BX.out _ (HR.out.calls hb0)).mono ?_
  rintro e w4 ⟨rfl, h4⟩
  replace c1 := (h4.cell (by (try dsimp only); omega)).trans c1
  replace c2 := (h4.cell (by (try dsimp only); omega)).trans c2
  replace c3 := (h4.cell (by (try dsimp only); omega)).trans c3
  replace c4 := (h4.cell (by (try dsimp only); omega)).trans c4
  replace hb0 := hb0.trans (h4.mono (by omega))
  have z4 := h4.size
  clear h4
  go_upto_region 6 with fail
  refine any_gen (fun z => z.cell? ⟨w.heap.size, 0, none⟩ = some (.int .i64 (s)) ∧ z.cell? ⟨w.heap.size, 1, none⟩ = some (.int .i64 (t)) ∧ z.cell? ⟨w.heap.size + 1, 0, none⟩ = some (.int .i64 (a)) ∧ z.cell? ⟨w.heap.size + 1, 1, none⟩ = some (.int .i64 (b)) ∧ z.cell? ⟨w4.heap.size, 0, none⟩ = some (.int .i64 (lx)) ∧ z.cell? ⟨w4.heap.size, 1, none⟩ = some (.int .i64 (ly)) ∧ z.cell? ⟨w4.heap.size + 1, 0, none⟩ = some (.int .i64 (hx)) ∧ z.cell? ⟨w4.heap.size + 1, 1, none⟩ = some (.int .i64 (hy)) ∧ w4.heap.size + 1 + 1 ≤ z.heap.size ∧ Below w.heap.size w z) ⟨(World.cell?_alloc_old _ _ _ (by simp; omega)).trans ((World.cell?_alloc_old _ _ _ (by (try dsimp only); omega)).trans c1), (World.cell?_alloc_old _ _ _ (by simp; omega)).trans ((World.cell?_alloc_old _ _ _ (by (try dsimp only); omega)).trans c2), (World.cell?_alloc_old _ _ _ (by simp; omega)).trans ((World.cell?_alloc_old _ _ _ (by (try dsimp only); omega)).trans c3), (World.cell?_alloc_old _ _ _ (by simp; omega)).trans ((World.cell?_alloc_old _ _ _ (by (try dsimp only); omega)).trans c4), by simp [go_sem], by simp [go_sem], by simp [go_sem], by simp [go_sem], by simp, (hb0.alloc (by omega) _).alloc (by simp; omega) _⟩ ?_
  clear c1 c2 c3 c4 hb0
  rintro w5 ⟨c1, c2, c3, c4, c5, c6, c7, c8, hs5, hb0⟩
  obtain ⟨G, hG⟩ : ∃ G, w4.heap.size = G := ⟨_, rfl⟩
  rw [hG] at z4 hs5 c5 c6 c7 c8
  simp only [hG]
  clear hG
  go_wp2_with fail
  refine (RB.out _ (HR.out.calls hb0)).mono ?_
  rintro e w6 ⟨rfl, h6⟩
  replace c1 := (h6.cell (by (try dsimp only); omega)).trans c1
  replace c2 := (h6.cell (by (try dsimp only); omega)).trans c2
  replace c3 := (h6.cell (by (try dsimp only); omega)).trans c3
  replace c4 := (h6.cell (by (try dsimp only); omega)).trans c4
  replace c5 := (h6.cell (by (try dsimp only); omega)).trans c5
  replace c6 := (h6.cell (by (try dsimp only); omega)).trans c6
  replace c7 := (h6.cell (by (try dsimp only); omega)).trans c7
  replace c8 := (h6.cell (by (try dsimp only); omega)).trans c8
  replace hb0 := hb0.trans (h6.mono (by omega))
  have z6 := h6.size
  clear h6
  go_upto_region 7 with fail
  refine any_gen (fun z => z.cell? ⟨w.heap.size, 0, none⟩ = some (.int .i64 (s)) ∧ z.cell? ⟨w.heap.size, 1, none⟩ = some (.int .i64 (t)) ∧ z.cell? ⟨w.heap.size + 1, 0, none⟩ = some (.int .i64 (a)) ∧ z.cell? ⟨w.heap.size + 1, 1, none⟩ = some (.int .i64 (b)) ∧ z.cell? ⟨G, 0, none⟩ = some (.int .i64 (lx)) ∧ z.cell? ⟨G, 1, none⟩ = some (.int .i64 (ly)) ∧ z.cell? ⟨G + 1, 0, none⟩ = some (.int .i64 (hx)) ∧ z.cell? ⟨G + 1, 1, none⟩ = some (.int .i64 (hy)) ∧ z.cell? ⟨w6.heap.size, 0, none⟩ = some (.int .i64 (lx)) ∧ z.cell? ⟨w6.heap.size, 1, none⟩ = some (.int .i64 (ly)) ∧ z.cell? ⟨w6.heap.size + 1, 0, none⟩ = some (.int .i64 (hx)) ∧ z.cell? ⟨w6.heap.size + 1, 1, none⟩ = some (.int .i64 (hy)) ∧ w6.heap.size + 1 + 1 ≤ z.heap.size ∧ Below w.heap.size w z) ⟨(World.cell?_alloc_old _ _ _ (by simp; omega)).trans ((World.cell?_alloc_old _ _ _ (by (try dsimp only); omega)).trans c1), (World.cell?_alloc_old _ _ _ (by simp; omega)).trans ((World.cell?_alloc_old _ _ _ (by (try dsimp only); omega)).trans c2), (World.cell?_alloc_old _ _ _ (by simp; omega)).trans ((World.cell?_alloc_old _ _ _ (by (try dsimp only); omega)).trans c3), (World.cell?_alloc_old _ _ _ (by simp; omega)).trans ((World.cell?_alloc_old _ _ _ (by (try dsimp only); omega)).trans c4), (World.cell?_alloc_old _ _ _ (by simp; omega)).trans ((World.cell?_alloc_old _ _ _ (by (try dsimp only); omega)).trans c5), (World.cell?_alloc_old _ _ _ (by simp; omega)).trans ((World.cell?_alloc_old _ _ _ (by (try dsimp only); omega)).trans c6), (World.cell?_alloc_old _ _ _ (by simp; omega)).trans ((World.cell?_alloc_old _ _ _ (by (try dsimp only); omega)).trans c7), (World.cell?_alloc_old _ _ _ (by simp; omega)).trans ((World.cell?_alloc_old _ _ _ (by (try dsimp only); omega)).trans c8), by simp [go_sem], by simp [go_sem], by simp [go_sem], by simp [go_sem], by simp, (hb0.alloc (by omega) _).alloc (by simp; omega) _⟩ ?_
  clear c1 c2 c3 c4 c5 c6 c7 c8 hb0
  rintro w0 ⟨c1, c2, c3, c4, c5, c6, c7, c8, c9, c10, c11, c12, hs, hb0⟩
  obtain ⟨H, hH⟩ : ∃ H, w6.heap.size = H := ⟨_, rfl⟩
  rw [hH] at z6 hs c9 c10 c11 c12
  simp only [hH]
  clear hH
  have HRX := Lib.hid (HR.out.calls hb0)
  have EQ1 := fun w => eq_pt6 lx ly w
  have EQ2 := fun w => eq_pt6 hx hy w
  have p1 : (av == av) = true := by simp
  have p2 : (cv == cv) = true := by simp
  have p3 : (hv == hv) = true := by simp
  have hz0 := hb0.size
  go_region_held3 (fun w' => w'.cell? ⟨w.heap.size, 0, none⟩ = some (.int .i64 (s)) ∧ w'.cell? ⟨w.heap.size, 1, none⟩ = some (.int .i64 (t)) ∧ w'.cell? ⟨w.heap.size + 1, 0, none⟩ = some (.int .i64 (a)) ∧ w'.cell? ⟨w.heap.size + 1, 1, none⟩ = some (.int .i64 (b)) ∧ w'.cell? ⟨G, 0, none⟩ = some (.int .i64 (lx)) ∧ w'.cell? ⟨G, 1, none⟩ = some (.int .i64 (ly)) ∧ w'.cell? ⟨G + 1, 0, none⟩ = some (.int .i64 (hx)) ∧ w'.cell? ⟨G + 1, 1, none⟩ = some (.int .i64 (hy)) ∧ w'.cell? ⟨H, 0, none⟩ = some (.int .i64 (lx)) ∧ w'.cell? ⟨H, 1, none⟩ = some (.int .i64 (ly)) ∧ w'.cell? ⟨H + 1, 0, none⟩ = some (.int .i64 (hx)) ∧ w'.cell? ⟨H + 1, 1, none⟩ = some (.int .i64 (hy)) ∧ Below w0.heap.size w0 w') ((first | assumption | exact ⟨by simp [*], by simp [*], by simp [*], by simp [*], by simp [*], by simp [*], by simp [*], by simp [*], by simp [*], by simp [*], by simp [*], by simp [*], (Below.refl _ _).drew⟩ | exact keep12 ‹_› hb (by (try dsimp only); omega) (by (try dsimp only); omega) (by (try dsimp only); omega) (by (try dsimp only); omega) (by (try dsimp only); omega) (by (try dsimp only); omega) (by (try dsimp only); omega) (by (try dsimp only); omega) (by (try dsimp only); omega) (by (try dsimp only); omega) (by (try dsimp only); omega) (by (try dsimp only); omega) | exact keepA12 ‹_› _ (by (try dsimp only); omega) (by (try dsimp only); omega) (by (try dsimp only); omega) (by (try dsimp only); omega) (by (try dsimp only); omega) (by (try dsimp only); omega) (by (try dsimp only); omega) (by (try dsimp only); omega) (by (try dsimp only); omega) (by (try dsimp only); omega) (by (try dsimp only); omega) (by (try dsimp only); omega) | exact keepS12 (keepS12 ‹_› _ _ (by (try dsimp only); omega) (by (try dsimp only); omega) (by (try dsimp only); omega) (by (try dsimp only); omega) (by (try dsimp only); omega) (by (try dsimp only); omega) (by (try dsimp only); omega) (by (try dsimp only); omega) (by (try dsimp only); omega) (by (try dsimp only); omega) (by (try dsimp only); omega) (by (try dsimp only); omega) (by (try dsimp only); omega)) _ _ (by (try dsimp only); omega) (by (try dsimp only); omega) (by (try dsimp only); omega) (by (try dsimp only); omega) (by (try dsimp only); omega) (by (try dsimp only); omega) (by (try dsimp only); omega) (by (try dsimp only); omega) (by (try dsimp only); omega) (by (try dsimp only); omega) (by (try dsimp only); omega) (by (try dsimp only); omega) (by (try dsimp only); omega))) ((first | (go_at_call 13; with_reducible refine (AR.out _ (HRX.out.calls (by exact belK12 (by assumption)))).mono ?_; rintro e w' ⟨rfl, hb⟩) | (go_at_call 14; with_reducible refine (RA.out _ (HRX.out.calls (by exact belK12 (by assumption)))).mono ?_; rintro e w' ⟨rfl, hb⟩) | (go_at_call 15; with_reducible refine (CV.out _ (HRX.out.calls (by exact belK12 (by assumption)))).mono ?_; rintro e w' ⟨rfl, hb⟩) | (go_at_call 16; with_reducible refine (RC.out _ (HRX.out.calls (by exact belK12 (by assumption)))).mono ?_; rintro e w' ⟨rfl, hb⟩) | (go_at_call 17; with_reducible refine (HS.out _ (HRX.out.calls (by exact belK12 (by assumption)))).mono ?_; rintro e w' ⟨rfl, hb⟩) | (go_at_call 18; with_reducible refine (RH.out _ (HRX.out.calls (by exact belK12 (by assumption)))).mono ?_; rintro e w' ⟨rfl, hb⟩) | (go_at_call 20; with_reducible refine (SH.out _ (HRX.out.calls (by exact belK12 (by assumption)))).mono ?_; rintro e w' ⟨A4, k4, rfl, hc4, hb⟩) | (go_at_call 21; with_reducible refine (RS.out _ (HRX.out.calls (by exact belK12 (by assumption)))).mono ?_; rintro e w' ⟨A5, k5, rfl, hc5, hb⟩; have hc44 := hc4.calls hb) | (go_at_call 19; with_reducible refine (SO.out A4 A5 k4 k5 _ hc44 hc5).mono ?_; rintro e wS ⟨rfl, hb⟩) | (go_at_call 24; with_reducible refine (PU.out _ _ (by first | (simp [go_sem]; done)) (by first | (simp; done) | (simp; omega) | omega) (HRX.out.calls (by exact belK12 (by assumption)))).mono ?_; rintro e wP ⟨A7, k7, rfl, hp7, hb⟩; have zP := hb.size; (try simp at zP); (try have q1 := (hb.cell (p := ⟨wS.heap.size, 0, none⟩) (by first | (simp; done) | (simp; omega) | omega)).trans (show _ = some (Value.slice A n cap) from (by first  | (simp [go_sem]; done)))); (try have q2 := (hb.cell (p := ⟨wS.heap.size + 1, 0, none⟩) (by first | (simp; done) | (simp; omega) | omega)).trans (show _ = some (Value.slice A n cap) from (by first  | (simp [go_sem]; done))))) | (go_at_call 23; with_reducible refine (IT.out A7 k7 _ (by first | exact hp7 | exact hp7.calls ((Below.refl _ _).alloc (Nat.le_refl _) _))).mono ?_; rintro e wI ⟨A8, k8, rfl, hp8, hb⟩; have zI := hb.size; (try simp at zI); (try have q1 := (hb.cell (p := ⟨wS.heap.size, 0, none⟩) (by first | (simp; done) | (simp; omega) | omega)).trans (show _ = some (Value.slice A n cap) from (by first | exact q1 | exact (World.cell?_alloc_old _ _ _ (by (try dsimp only); omega)).trans q1 | (simp [go_sem]; done)))); (try have q2 := (hb.cell (p := ⟨wS.heap.size + 1, 0, none⟩) (by first | (simp; done) | (simp; omega) | omega)).trans (show _ = some (Value.slice A n cap) from (by first | exact q2 | exact (World.cell?_alloc_old _ _ _ (by (try dsimp only); omega)).trans q2 | (simp [go_sem]; done)))); (try have q3 := (hb.cell (p := ⟨wP.heap.size, 0, none⟩) (by first | (simp; done) | (simp; omega) | omega)).trans (show _ = some (Value.slice A n cap) from (by first  | (simp [go_sem]; done))))) | (go_at_call 25; with_reducible refine (RP.out _ _ (by first | exact q1 | exact q2 | exact q3 | (simp [go_sem]; done)) (by first | (simp; done) | (simp; omega) | omega) (HRX.out.calls (by exact belK12 (by assumption)))).mono ?_; rintro e wR ⟨A9, k9, rfl, hp9, hb⟩; have hp88 := (show Pcs wR wR.heap.size A8 ps from (by first | exact hp8.calls hb | exact (hp8.calls ((Below.refl _ _).alloc (Nat.le_refl _) _)).calls hb))) | (go_at_call 22; with_reducible refine (SA.out A8 A9 k8 k9 _ hp88 hp9).mono ?_; rintro e w' ⟨rfl, hb⟩)))
  all_goals
    have hF := belK12 ‹_ ∧ _ ∧ _ ∧ _ ∧ _ ∧ _ ∧ _ ∧ _ ∧ _ ∧ _ ∧ _ ∧ _ ∧ Below w0.heap.size w0 _›
    go_wp2
    go_ret
    exact ⟨rfl, hb0.trans (hF.mono (by omega))⟩

theorem walk_PieceTells (A : Option Addr) (cap : Nat) (l : List Pnt) (s t a b : Int) (w : World) (hr : Cor w w.heap.size A l) (hl : l.length ≤ 9223372036854775807) :
    Calls Try.prog 3 #[.slice A l.length cap, P2 s t, P2 a b] w fun e w' => e = .returned (.bool true) ∧ Below w.heap.size w w' := by
  cases hb : boundedV l
  · exact tells6_far A cap l s t a b w hr hl hb
  · cases hq : boundedV [(s, t), (a, b)]
    · exact tells6_far2 A cap l s t a b w hr hl hb hq
    · exact tells6_main A cap l s t a b w hr hl hb hq
end Go.Proofs.Ytlgfnhapjhoelaa
