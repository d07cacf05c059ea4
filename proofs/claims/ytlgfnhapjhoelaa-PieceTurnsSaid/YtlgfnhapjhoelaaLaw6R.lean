/- The walk of PieceTurns: begun at another corner a piece is as great; told backwards it goes the other way round. -/
import Derived.Test.YtlgfnhapjhoelaaApp6
import Derived.Test.YtlgfnhapjhoelaaLaw6U
namespace Go.Proofs.Ytlgfnhapjhoelaa
open Go.RowKit
set_option linter.unusedVariables false
set_option linter.unusedSimpArgs false
set_option maxHeartbeats 4000000
set_option maxRecDepth 100000

theorem und_ppR : Try.prog.underlying 27 = some (.slice 24) := by kernel_rfl
theorem area_rev (l : List Pnt) : areaV l.reverse = wrapA (-areaV l) := by unfold areaV; rw [area_back]; exact wrapA_neg _
theorem near_one6 {s t : Int} (h : boundedV [(s, t)] = true) : NearP (s, t) := by
  unfold boundedV allNear at h
  simp only [List.all_cons, List.all_nil, Bool.and_true, Bool.and_eq_true, nearB_iff] at h
  exact h.1
theorem turn_near (k : Nat) (l : List Pnt) (h : allNear l = true) : allNear (l.drop k ++ l.take k) = true := by
  unfold allNear at h ⊢; rw [all_perm (turn_perm k l)]; exact h
theorem turn_len {α : Type} (k : Nat) (l : List α) : (l.drop k ++ l.take k).length = l.length := (turn_perm k l).length_eq
theorem back_near (l : List Pnt) (h : allNear l = true) : allNear l.reverse = true := by
  unfold allNear at h ⊢; rw [List.all_reverse]; exact h
theorem kB2 {B : Nat} {w0 wa w' : World} {p0 p1 : Addr} {u0 u1 : Value} (h : wa.cell? p0 = some u0 ∧ wa.cell? p1 = some u1 ∧ Below B w0 wa) (hb : Below B wa w') (h0 : p0.block < B) (h1 : p1.block < B) :
    w'.cell? p0 = some u0 ∧ w'.cell? p1 = some u1 ∧ Below B w0 w' :=
  ⟨(hb.cell h0).trans h.1, (hb.cell h1).trans h.2.1, h.2.2.trans hb⟩
theorem flatP_append (a b : List Pnt) : flatP (a ++ b) = flatP a ++ flatP b := by unfold flatP; simp

theorem turns6_far (A : Option Addr) (cap : Nat) (l : List Pnt) (d : Int) (s t : Int) (w : World) (hr : Cor w w.heap.size A l) (hl : l.length ≤ 9223372036854775807) (hcap : l.length ≤ cap) (hd : 0 ≤ d ∧ d ≤ 255) (hb : boundedV l = false) :
    Calls Try.prog 7 #[.slice A l.length cap, .int .u8 d, P2 s t] w fun e w' => e = .returned (.bool true) ∧ Below w.heap.size w w' := by
  have HR := Lib.hid hr
  clear hr
  obtain ⟨n, hn⟩ : ∃ n, l.length = n := ⟨_, rfl⟩
  rw [hn] at hl hcap ⊢
  have HN := Lib.hid hn
  have BND := Lib.hid (fun w hr => (hn ▸ bounded_any A cap l w hr (hn.symm ▸ hl) : Calls Try.prog 9 #[.slice A n cap] w _))
  have HB := Lib.hid hb
  clear hb hn
  go_enter Try.func7, Try.ntmps7
  go_wp2_with fail
  refine (BND.out _ (HR.out.step ((Below.refl _ _).alloc (Nat.le_refl _) _) |>.more (by simp))).mono ?_
  rintro e w1 ⟨rfl, h1⟩
  rw [HB.out]
  have z1 := h1.size
  simp at z1
  have hb0 := (show Below w.heap.size w _ from (by repeat (first | exact Below.refl _ _ | assumption | refine below_dN ?_ _ | refine Below.setCell ?_ (by first | (simp; done) | (simp; omega) | omega) _ | refine Below.alloc ?_ (by first | (simp; done) | (simp; omega) | omega) _))).trans (h1.mono (by simp))
  clear h1
  go_wp2_with fail
  refine (shown6_any _).mono ?_
  rintro e w3 ⟨rfl, h3⟩
  go_wp2
  go_ret
  exact ⟨rfl, hb0.trans (h3.mono hb0.size)⟩

theorem turns6_far2 (A : Option Addr) (cap : Nat) (l : List Pnt) (d : Int) (s t : Int) (w : World) (hr : Cor w w.heap.size A l) (hl : l.length ≤ 9223372036854775807) (hcap : l.length ≤ cap) (hd : 0 ≤ d ∧ d ≤ 255) (hb : boundedV l = true) (hq : boundedV [(s, t)] = false) :
    Calls Try.prog 7 #[.slice A l.length cap, .int .u8 d, P2 s t] w fun e w' => e = .returned (.bool true) ∧ Below w.heap.size w w' := by
  have HQ := Lib.hid hq
  clear hq
  have HR := Lib.hid hr
  clear hr
  obtain ⟨n, hn⟩ : ∃ n, l.length = n := ⟨_, rfl⟩
  rw [hn] at hl hcap ⊢
  have HN := Lib.hid hn
  have BND := Lib.hid (fun w hr => (hn ▸ bounded_any A cap l w hr (hn.symm ▸ hl) : Calls Try.prog 9 #[.slice A n cap] w _))
  have HB := Lib.hid hb
  clear hb hn
  go_enter Try.func7, Try.ntmps7
  go_wp2_with fail
  refine (BND.out _ (HR.out.step ((Below.refl _ _).alloc (Nat.le_refl _) _) |>.more (by simp))).mono ?_
  rintro e w1 ⟨rfl, h1⟩
  rw [HB.out]
  have z1 := h1.size
  simp at z1
  obtain ⟨c1, c2, hb0⟩ : w1.cell? ⟨w.heap.size, 0, none⟩ = some (.int .i64 s) ∧ w1.cell? ⟨w.heap.size, 1, none⟩ = some (.int .i64 t) ∧ Below w.heap.size w w1 := ⟨(h1.cell (p := ⟨w.heap.size, 0, none⟩) (by simp)).trans (by simp), (h1.cell (p := ⟨w.heap.size, 1, none⟩) (by simp)).trans (by simp), (show Below w.heap.size w _ from (by repeat (first | exact Below.refl _ _ | assumption | refine below_dN ?_ _ | refine Below.setCell ?_ (by first | (simp; done) | (simp; omega) | omega) _ | refine Below.alloc ?_ (by first | (simp; done) | (simp; omega) | omega) _))).trans (h1.mono (by simp))⟩
  clear h1
  go_wp2_with fail
  refine (bounded_any (some ⟨w1.heap.size, 0, none⟩) 1 [(s, t)] _ (cor_lit' _ _ _ _ [(s, t)] _ rfl rfl (by simp)) (by simp)).mono ?_
  rintro e w2 ⟨rfl, h2⟩
  rw [HQ.out]
  have h2b := (show Below w1.heap.size w1 _ from (Below.refl _ _).alloc (Nat.le_refl _) _).trans (h2.mono (by simp))
  replace c1 := (h2b.cell (by dsimp only; omega)).trans c1
  replace c2 := (h2b.cell (by dsimp only; omega)).trans c2
  replace hb0 := hb0.trans (h2b.mono (by omega))
  have z2 := h2b.size
  clear h2 h2b
  go_wp2_with fail
  refine (shown6_any _).mono ?_
  rintro e w3 ⟨rfl, h3⟩
  go_wp2
  go_ret
  exact ⟨rfl, hb0.trans (h3.mono hb0.size)⟩

theorem turns6_none (A : Option Addr) (cap : Nat) (l : List Pnt) (d : Int) (s t : Int) (w : World) (hr : Cor w w.heap.size A l) (hl : l.length ≤ 9223372036854775807) (hcap : l.length ≤ cap) (hd : 0 ≤ d ∧ d ≤ 255) (hb : boundedV l = true) (hq : boundedV [(s, t)] = true) (h0 : l.length = 0) :
    Calls Try.prog 7 #[.slice A l.length cap, .int .u8 d, P2 s t] w fun e w' => e = .returned (.bool true) ∧ Below w.heap.size w w' := by
  have HQ := Lib.hid hq
  clear hq
  have HR := Lib.hid hr
  clear hr
  obtain ⟨n, hn⟩ : ∃ n, l.length = n := ⟨_, rfl⟩
  rw [hn] at hl hcap ⊢
  have HN := Lib.hid hn
  have BND := Lib.hid (fun w hr => (hn ▸ bounded_any A cap l w hr (hn.symm ▸ hl) : Calls Try.prog 9 #[.slice A n cap] w _))
  have q0 : n = 0 := by rw [← hn]; exact h0
  have q1 : ((n : Int) == 0) = true := by simp; omega
  clear h0 q0
  have HB := Lib.hid hb
  clear hb hn
  go_enter Try.func7, Try.ntmps7
  go_wp2_with fail
  refine (BND.out _ (HR.out.step ((Below.refl _ _).alloc (Nat.le_refl _) _) |>.more (by simp))).mono ?_
  rintro e w1 ⟨rfl, h1⟩
  rw [HB.out]
  have z1 := h1.size
  simp at z1
  obtain ⟨c1, c2, hb0⟩ : w1.cell? ⟨w.heap.size, 0, none⟩ = some (.int .i64 s) ∧ w1.cell? ⟨w.heap.size, 1, none⟩ = some (.int .i64 t) ∧ Below w.heap.size w w1 := ⟨(h1.cell (p := ⟨w.heap.size, 0, none⟩) (by simp)).trans (by simp), (h1.cell (p := ⟨w.heap.size, 1, none⟩) (by simp)).trans (by simp), (show Below w.heap.size w _ from (by repeat (first | exact Below.refl _ _ | assumption | refine below_dN ?_ _ | refine Below.setCell ?_ (by first | (simp; done) | (simp; omega) | omega) _ | refine Below.alloc ?_ (by first | (simp; done) | (simp; omega) | omega) _))).trans (h1.mono (by simp))⟩
  clear h1
  go_wp2_with fail
  refine (bounded_any (some ⟨w1.heap.size, 0, none⟩) 1 [(s, t)] _ (cor_lit' _ _ _ _ [(s, t)] _ rfl rfl (by simp)) (by simp)).mono ?_
  rintro e w2 ⟨rfl, h2⟩
  rw [HQ.out]
  have h2b := (show Below w1.heap.size w1 _ from (Below.refl _ _).alloc (Nat.le_refl _) _).trans (h2.mono (by simp))
  replace c1 := (h2b.cell (by dsimp only; omega)).trans c1
  replace c2 := (h2b.cell (by dsimp only; omega)).trans c2
  replace hb0 := hb0.trans (h2b.mono (by omega))
  have z2 := h2b.size
  clear h2 h2b
  go_wp2_with fail
  refine (shown6_any _).mono ?_
  rintro e w3 ⟨rfl, h3⟩
  go_wp2
  go_ret
  exact ⟨rfl, hb0.trans (h3.mono hb0.size)⟩

theorem turns6_main (A : Option Addr) (cap : Nat) (l : List Pnt) (d : Int) (s t : Int) (w : World) (hr : Cor w w.heap.size A l) (hl : l.length ≤ 9223372036854775807) (hcap : l.length ≤ cap) (hd : 0 ≤ d ∧ d ≤ 255) (hb : boundedV l = true) (hq : boundedV [(s, t)] = true) (h0 : l.length ≠ 0) :
    Calls Try.prog 7 #[.slice A l.length cap, .int .u8 d, P2 s t] w fun e w' => e = .returned (.bool true) ∧ Below w.heap.size w w' := by
  have hb16 := near_16 hb
  have nq := near_one6 hq
  unfold NearP at nq
  dsimp only at nq
  obtain ⟨k, hk⟩ : ∃ k : Nat, d.toNat % l.length = k := ⟨_, rfl⟩
  have hkl : k < l.length := by rw [← hk]; exact Nat.mod_lt _ (by omega)
  have hdk : Int.tmod d (l.length : Int) = (k : Int) := by rw [Int.tmod_eq_emod_of_nonneg (by omega), ← hk]; obtain ⟨e, rfl⟩ := Int.eq_ofNat_of_zero_le hd.1; exact (Int.natCast_emod _ _).symm
  obtain ⟨tl, htl⟩ : ∃ m, l.drop k ++ l.take k = m := ⟨_, rfl⟩
  obtain ⟨bl, hbl⟩ : ∃ m, l.reverse = m := ⟨_, rfl⟩
  have tn := turn_near k l hb16.2
  have tlen := turn_len k l
  have bn := back_near l hb16.2
  have blen : bl.length = l.length := by rw [← hbl, List.length_reverse]
  have t1 := area_turn k l (by omega)
  have t2 := convex_turn k l (by omega)
  have t3 := has_turn k l (by omega) (s, t)
  have t4 := area_rev l
  have t5 := convex_two l
  rw [htl] at tn tlen t1 t2 t3
  rw [hbl] at bn t4 t5
  have TA0 := fun A c w hr => parea_any A c tl w hr (by omega) tn
  have TC0 := fun A c w hr => pconvex_any A c tl w hr (by omega) tn
  have TH0 := fun A c w hr => phas_any A c tl s t w hr (by omega) tn nq.1 nq.2
  have XA0 := fun w hr => parea_any A cap l w hr hb16.1 hb16.2
  have XC0 := fun w hr => pconvex_any A cap l w hr hb16.1 hb16.2
  have XH0 := fun w hr => phas_any A cap l s t w hr hb16.1 hb16.2 nq.1 nq.2
  have BA0 := fun A c w hr => parea_any A c bl w hr (by omega) bn
  have BC0 := fun A c w hr => pconvex_any A c bl w hr (by omega) bn
  rw [t1] at TA0
  rw [t2] at TC0
  rw [t3] at TH0
  rw [t4] at BA0
  obtain ⟨cv, hcv⟩ : ∃ v, convexV l = v := ⟨_, rfl⟩
  obtain ⟨cb, hcb⟩ : ∃ v, convexV bl = v := ⟨_, rfl⟩
  obtain ⟨hv, hhv⟩ : ∃ v, hasV l (s, t) = v := ⟨_, rfl⟩
  obtain ⟨av, hav⟩ : ∃ v, areaV l = v := ⟨_, rfl⟩
  obtain ⟨nv, hnv⟩ : ∃ v, wrapA (-areaV l) = v := ⟨_, rfl⟩
  rw [hnv] at BA0
  have e9 : IntKind.i64.wrap (-av) = nv := by rw [IntKind.wrap_i64, ← hnv, ← hav]; rfl
  rw [hcb, hcv] at t5
  simp only [hcv] at TC0 XC0
  simp only [hcb] at BC0
  simp only [hhv] at TH0 XH0
  simp only [hav] at TA0 XA0
  rw [tlen] at TA0 TC0 TH0
  rw [blen] at BA0 BC0
  have HTL := Lib.hid htl
  have HBL := Lib.hid hbl
  have HTE := Lib.hid tlen
  have HBE := Lib.hid blen
  clear t1 t2 t3 t4 hcv hcb hhv hav hnv htl hbl tlen blen tn bn hk nq
  have HR := Lib.hid hr
  clear hr
  obtain ⟨n, hn⟩ : ∃ n, l.length = n := ⟨_, rfl⟩
  rw [hn] at hl hcap ⊢
  have HN := Lib.hid hn
  have BND := Lib.hid (fun w hr => (hn ▸ bounded_any A cap l w hr (hn.symm ▸ hl) : Calls Try.prog 9 #[.slice A n cap] w _))
  rw [hn] at hkl hdk TA0 TC0 TH0 XA0 XC0 XH0 BA0 BC0 HTE HBE h0
  have hn16 : n ≤ 16 := by rw [← hn]; exact hb16.1
  have TA := Lib.hid TA0
  have TC := Lib.hid TC0
  have TH := Lib.hid TH0
  have XA := Lib.hid XA0
  have XC := Lib.hid XC0
  have XH := Lib.hid XH0
  have BA := Lib.hid BA0
  have BC := Lib.hid BC0
  have HB := Lib.hid hb
  have HQ := Lib.hid hq
  have HT5 := Lib.hid t5
  clear hb hq hn hb16 t5 TA0 TC0 TH0 XA0 XC0 XH0 BA0 BC0
  have q1 : ((n : Int) == 0) = false := by simp; omega
  have q6 : ¬ (n : Int) = 0 := by omega
  have q8 : ¬ n = 0 := by omega
  have e1 : IntKind.i64.wrap d = d := IntWalk.i64_in _ (by omega)
  have e2 : IntKind.i64.wrap (k : Int) = (k : Int) := IntWalk.i64_in _ (by omega)
  have e3 : IntKind.i64.wrap ((n : Int) - 1) = (n : Int) - 1 := IntWalk.i64_in _ (by omega)
  have k0 : (0 : Int) ≤ (k : Int) := by omega
  have k1 : (k : Int) ≤ (n : Int) := by omega
  have k2 : (k : Int) ≤ (cap : Int) := by omega
  have k3 : (n : Int) ≤ (cap : Int) := by omega
  go_enter Try.func7, Try.ntmps7
  go_wp2_with fail
  refine (BND.out _ (HR.out.step ((Below.refl _ _).alloc (Nat.le_refl _) _) |>.more (by simp))).mono ?_
  rintro e w1 ⟨rfl, h1⟩
  rw [HB.out]
  have z1 := h1.size
  simp at z1
  obtain ⟨c1, c2, hb0⟩ : w1.cell? ⟨w.heap.size, 0, none⟩ = some (.int .i64 s) ∧ w1.cell? ⟨w.heap.size, 1, none⟩ = some (.int .i64 t) ∧ Below w.heap.size w w1 := ⟨(h1.cell (p := ⟨w.heap.size, 0, none⟩) (by simp)).trans (by simp), (h1.cell (p := ⟨w.heap.size, 1, none⟩) (by simp)).trans (by simp), (show Below w.heap.size w _ from (by repeat (first | exact Below.refl _ _ | assumption | refine below_dN ?_ _ | refine Below.setCell ?_ (by first | (simp; done) | (simp; omega) | omega) _ | refine Below.alloc ?_ (by first | (simp; done) | (simp; omega) | omega) _))).trans (h1.mono (by simp))⟩
  clear h1
  go_wp2_with fail
  refine (bounded_any (some ⟨w1.heap.size, 0, none⟩) 1 [(s, t)] _ (cor_lit' _ _ _ _ [(s, t)] _ rfl rfl (by simp)) (by simp)).mono ?_
  rintro e w2 ⟨rfl, h2⟩
  rw [HQ.out]
  have h2b := (show Below w1.heap.size w1 _ from (Below.refl _ _).alloc (Nat.le_refl _) _).trans (h2.mono (by simp))
  replace c1 := (h2b.cell (by dsimp only; omega)).trans c1
  replace c2 := (h2b.cell (by dsimp only; omega)).trans c2
  replace hb0 := hb0.trans (h2b.mono (by omega))
  have z2 := h2b.size
  clear h2 h2b
  go_wp2_with fail
  refine (shown6_any _).mono ?_
  rintro e w3 ⟨rfl, h3⟩
  replace c1 := (h3.cell (by dsimp only; omega)).trans c1
  replace c2 := (h3.cell (by dsimp only; omega)).trans c2
  replace hb0 := hb0.trans (h3.mono hb0.size)
  have z3 := h3.size
  clear h3
  obtain ⟨ad, rfl, hBa⟩ : ∃ ad, A = some ad ∧ ad.block < w.heap.size := by
    obtain ⟨ad, e, hB, _⟩ := HR.out (by rw [HN.out]; omega)
    exact ⟨ad, e, hB⟩
  have k9 : ¬ cap = k := by omega
  have hs3 := hb0.size
  obtain ⟨i0, hi, hz0, hz1, hz2⟩ := info_parts info_pt
  have HO := Lib.hid (World.ownsRow_made (size := 2) (e := 24) (base := w3.heap.size) w3 #[] 0 (Nat.le_refl _) (Nat.zero_le _) rfl)
  have HCD := Lib.hid (fun X (hX : Below w3.heap.size w3 X) => flat_cells ((HR.out.step (hb0.trans (hX.mono hs3))).drop k (by rw [HN.out]; exact hkl)))
  have HCT := Lib.hid (fun X (hX : Below w3.heap.size w3 X) => flat_cells ((HR.out.step (hb0.trans (hX.mono hs3))).take k))
  have FL1 : (flatP (l.drop k)).length = (n - k) * 2 := by rw [flatP_length, List.length_drop, HN.out]
  have FL2 : (flatP (l.take k)).length = k * 2 := by rw [flatP_length, List.length_take, HN.out, Nat.min_eq_left (by omega)]
  go_upto_region 4 with fail
  go_region_held3 (fun w' => w'.cell? ⟨w.heap.size, 0, none⟩ = some (.int .i64 (s)) ∧ w'.cell? ⟨w.heap.size, 1, none⟩ = some (.int .i64 (t)) ∧ Below w3.heap.size w3 w') ((first | assumption | exact kB2 ‹_› hb (by (try dsimp only); omega) (by (try dsimp only); omega) | exact ⟨by simp [*], by simp [*], (Below.refl _ _).drew⟩ | exact keep2 ‹_› hb (by (try dsimp only); omega) (by (try dsimp only); omega) | exact keepA2 ‹_› _ (by (try dsimp only); omega) (by (try dsimp only); omega) | exact keepS2 (keepS2 ‹_› _ _ (by (try dsimp only); omega) (by (try dsimp only); omega) (by (try dsimp only); omega)) _ _ (by (try dsimp only); omega) (by (try dsimp only); omega) (by (try dsimp only); omega))) ((first | (refine step_append_any (by rfl) _ _ _ _ (by rfl) w3.heap.size 24 i0 _ 2 16 und_ppR und_pt hi hz0 hz1 hz2 rfl (by omega) (.slice (some ⟨w3.heap.size, 0, none⟩) 0 0) 0 [] (by rfl) (by simp) HO.out.drew (ad.add (k * 2)) (n - k) (cap - k) (flatP (l.drop k)) (by rfl) FL1 (HCD.out _ (by exact belK2 (by assumption))) (flat_one _) (by simp [maxLen]; omega) (by omega) (by simp) ?_; intro v4 w4 hv4 hown4 hb; rw [Nat.zero_add, List.nil_append] at hown4; have hs4 := (belK2 (kB2 ‹_› hb (by (try dsimp only); omega) (by (try dsimp only); omega))).size) | (refine step_append_any (by rfl) _ _ _ _ (by rfl) w3.heap.size 24 i0 _ 2 16 und_ppR und_pt hi hz0 hz1 hz2 rfl (by omega) v4 (n - k) (flatP (l.drop k)) (by rfl) hv4 hown4 ad k cap (flatP (l.take k)) (by rfl) FL2 (HCT.out _ (by exact belK2 (by assumption))) (flat_one _) (by simp [maxLen]; omega) (by omega) hs4 ?_; intro v5 w5 hv5 hown5 hb)))
  obtain ⟨d1, d2, hbw⟩ := ‹_ ∧ _ ∧ Below w3.heap.size w3 w5›
  rw [show n - k + k = n by omega, ← flatP_append, HTL.out] at hown5
  replace hb0 := hb0.trans (hbw.mono hs3)
  obtain ⟨A5, c5, rfl, -, hc5, -⟩ := cor_of_row hown5
  rw [HTE.out]
  have HT := Lib.hid hc5
  have hs5 := hb0.size
  have hs35 := hbw.size
  clear hown4 hown5 hv4 hv5 hc5 c1 c2 hbw hb hs4 HO HCD HCT FL1 FL2
  go_wp2_with fail
  go_loopw [9, 10] (fun v s10 wr => ∃ (j : Nat) (z : Int), s10 = .int .i64 z ∧ z + 1 + j = n ∧ wr.ownsRow w5.heap.size 24 2 v j (flatP (l.reverse.take j)) ∧ Below w5.heap.size w5 wr ∧ -1 ≤ z) (fun _ s10 _ => (intOf s10 + 1).toNat)
  case atStart =>
    refine ⟨0, (n : Int) - 1, rfl, by omega, ?_, ?_, by omega⟩
    · have h0 := World.ownsRow_made (size := 2) (e := 24) (base := w5.heap.size) w5 #[] 0 (Nat.le_refl _) (Nat.zero_le _) rfl
      exact h0
    · repeat (first | exact Below.refl _ _ | refine Below.alloc ?_ (by simp; try omega) _)
  case round =>
    obtain ⟨j, z, rfl, hz, hown, hbW, hzm⟩ := hrel
    by_cases hlt : 0 ≤ z
    · obtain ⟨i, rfl⟩ : ∃ i : Nat, z = (i : Int) := ⟨z.toNat, by omega⟩
      obtain ⟨⟨x, y⟩, hp⟩ : ∃ p, l[i]? = some p := ⟨_, List.getElem?_eq_getElem (by rw [HN.out]; omega)⟩
      obtain ⟨ad2, e2x, hB, f1, f2⟩ := ((HR.out.step hb0).step (hbW.mono hs5)).at_ hp
      obtain rfl := Option.some.inj e2x
      dsimp only at f1 f2
      have HF := Lib.hid (show flatP (l.reverse.take (j + 1)) = flatP (l.reverse.take j) ++ [.int .i64 x, .int .i64 y] by rw [List.take_add_one, List.getElem?_reverse (by rw [HN.out]; omega), HN.out, show n - 1 - j = i by omega, hp]; exact flat_snoc _ (x, y))
      obtain ⟨pf, hpf⟩ : ∃ pf, flatP (l.reverse.take j) = pf := ⟨_, rfl⟩
      rw [hpf] at hown HF
      clear hpf hp
      have hsz := hbW.size
      have p2 : decide ((0 : Int) ≤ (i : Int)) = true := by simp
      have p3 : decide ((i : Int) ≥ (0 : Int)) = true := by simp
      have p4 : (i : Int) < (n : Int) := by omega
      have p6 : (0 : Int) ≤ (i : Int) := by omega
      have p5 : IntKind.i64.wrap ((i : Int) - 1) = (i : Int) - 1 := IntWalk.i64_in _ (by omega)
      have hBk : (ad.add (i * 2)).block < w.heap.size := by rw [block_add]; exact hB
      go_upto_region 9 with fail
      iterate 10 go_step
      iterate 9 (first | go_step | go_simp)
      refine wpList_append_lies _ rfl _ _ _ rfl w5.heap.size 24 i0 _ 2 16 und_ppR hi hz0 hz1 hz2 rfl (by omega) u9 j _ (by rfl) (hown.alloc _) ⟨wr.heap.size, 0, none⟩ 1 1 [.int .i64 x, .int .i64 y] (by rfl) (by rfl) (World.news_of_block (cs := #[.int .i64 x, .int .i64 y]) (t := 24) (fr := (0, 0)) (heap_alloc_new wr _)) (by simp [Value.oneCell']) (by omega) (by simp [maxLen]; omega) (by omega) (by simp; omega) _ rfl ?_
      intro gg cp w6 hown2 hgrow hat hlt2
      have hge := ownsRow_ge hown
      clear hown
      go_wp2
      all_goals
        go_roundw
        case rel => exact ⟨j + 1, (i : Int) - 1, by go_num, by omega, by rw [HF.out]; exact hown2, (hbW.alloc (by omega) _).grown hgrow (by simp; omega) hge, by omega⟩
        case measure => (simp [intOf]; try omega)
    · have hjn : j = n := by omega
      have p2 : decide ((0 : Int) ≤ z) = false := by simpa using hlt
      have p3 : decide (z ≥ (0 : Int)) = false := by simpa using hlt
      rw [hjn, show l.reverse.take n = l.reverse by rw [← HN.out, ← List.length_reverse, List.take_length], HBL.out] at hown
      obtain ⟨A6, c6, rfl, -, hc6, -⟩ := cor_of_row hown
      clear hown hjn hz hzm
      simp only [HBE.out]
      have HB6 := Lib.hid hc6
      have HT6 := Lib.hid (HT.out.calls hbW)
      replace d1 := (hbW.cell (by (try dsimp only); omega)).trans d1
      replace d2 := (hbW.cell (by (try dsimp only); omega)).trans d2
      have hbr := hb0.trans (hbW.mono hs5)
      have HR6 := Lib.hid (HR.out.calls hbr)
      have hsr := hbr.size
      have hsw := hbW.size
      clear hc6 HT hbW
      have p6 : (av == av) = true := by simp
      have p7 : (cv == cv) = true := by simp
      have p8 : (hv == hv) = true := by simp
      have p9 : (nv == nv) = true := by simp
      go_upto_region 11 with fail
      cases cb with
      | true =>
        obtain rfl : cv = false := by have := HT5.out; simpa using this
        go_region_held3 (fun w' => w'.cell? ⟨w.heap.size, 0, none⟩ = some (.int .i64 (s)) ∧ w'.cell? ⟨w.heap.size, 1, none⟩ = some (.int .i64 (t)) ∧ Below wr.heap.size wr w') ((first | assumption | exact ⟨by simp [*], by simp [*], (Below.refl _ _).drew⟩ | exact keep2 ‹_› hb (by (try dsimp only); omega) (by (try dsimp only); omega) | exact keepA2 ‹_› _ (by (try dsimp only); omega) (by (try dsimp only); omega) | exact keepS2 (keepS2 ‹_› _ _ (by (try dsimp only); omega) (by (try dsimp only); omega) (by (try dsimp only); omega)) _ _ (by (try dsimp only); omega) (by (try dsimp only); omega) (by (try dsimp only); omega))) ((first | (go_at_call 13; with_reducible refine (TA.out _ _ _ (HT6.out.calls (by exact belK2 (by assumption)))).mono ?_; rintro e w' ⟨rfl, hb⟩) | (go_at_call 13; with_reducible refine (XA.out _ (HR6.out.calls (by exact belK2 (by assumption)))).mono ?_; rintro e w' ⟨rfl, hb⟩) | (go_at_call 13; with_reducible refine (BA.out _ _ _ (HB6.out.calls (by exact belK2 (by assumption)))).mono ?_; rintro e w' ⟨rfl, hb⟩) | (go_at_call 15; with_reducible refine (TC.out _ _ _ (HT6.out.calls (by exact belK2 (by assumption)))).mono ?_; rintro e w' ⟨rfl, hb⟩) | (go_at_call 15; with_reducible refine (XC.out _ (HR6.out.calls (by exact belK2 (by assumption)))).mono ?_; rintro e w' ⟨rfl, hb⟩) | (go_at_call 15; with_reducible refine (BC.out _ _ _ (HB6.out.calls (by exact belK2 (by assumption)))).mono ?_; rintro e w' ⟨rfl, hb⟩) | (go_at_call 17; with_reducible refine (TH.out _ _ _ (HT6.out.calls (by exact belK2 (by assumption)))).mono ?_; rintro e w' ⟨rfl, hb⟩) | (go_at_call 17; with_reducible refine (XH.out _ (HR6.out.calls (by exact belK2 (by assumption)))).mono ?_; rintro e w' ⟨rfl, hb⟩)))
        all_goals
          have hF := belK2 ‹_ ∧ _ ∧ Below wr.heap.size wr _›
          go_wp2
          go_ret
          exact ⟨rfl, hbr.trans (hF.mono (by omega))⟩
      | false =>
        refine wp_region_held_drew (S := fun w' => w'.cell? ⟨w.heap.size, 0, none⟩ = some (.int .i64 (s)) ∧ w'.cell? ⟨w.heap.size, 1, none⟩ = some (.int .i64 (t)) ∧ Below wr.heap.size wr w') (by kernel_rfl) ⟨by simp [*], by simp [*], (Below.refl _ _).drew⟩ (fun hHeld => ?_)
        refine wpAnyH_take (i := 0) (oi := ⟨some 61, _, _, _, _, _⟩) (v := ?_) rfl (by kernel_rfl) (by kernel_rfl) (by kernel_rfl) (fun _ _ _ h => h) (Or.inl ⟨by rfl, ?_⟩) (by assumption) ?_
        rotate_left
        · (intro w hSw; (try dsimp only at hSw); go_simp; (try with_reducible rfl))
        try simp only [Act.put, List.setIfInBounds_toArray, List.set_cons_zero, List.set_cons_succ]
        refine wpAnyH_take (i := 2) (oi := ⟨some 63, _, _, _, _, _⟩) (v := ?_) rfl (by kernel_rfl) (by kernel_rfl) (by kernel_rfl) (fun _ _ _ h => h) (Or.inl ⟨by rfl, ?_⟩) (by assumption) ?_
        rotate_left
        · (intro w hSw; (try dsimp only at hSw); go_simp; (try with_reducible rfl))
        try simp only [Act.put, List.setIfInBounds_toArray, List.set_cons_zero, List.set_cons_succ]
        refine wpAnyH_ready (rs := [1]) (by kernel_rfl) (by simp) ?_
        refine AllReadyH.cons (o := ⟨some 62, _, _, _, _, _⟩) rfl (fun K hK => ?_) AllReadyH.nil
        go_simp
        first | (go_at_call 13; with_reducible refine (TA.out _ _ _ (HT6.out.calls (by exact belK2 (by assumption)))).mono ?_; rintro e w' ⟨rfl, hb⟩) | (go_at_call 13; with_reducible refine (XA.out _ (HR6.out.calls (by exact belK2 (by assumption)))).mono ?_; rintro e w' ⟨rfl, hb⟩) | (go_at_call 13; with_reducible refine (BA.out _ _ _ (HB6.out.calls (by exact belK2 (by assumption)))).mono ?_; rintro e w' ⟨rfl, hb⟩) | (go_at_call 15; with_reducible refine (TC.out _ _ _ (HT6.out.calls (by exact belK2 (by assumption)))).mono ?_; rintro e w' ⟨rfl, hb⟩) | (go_at_call 15; with_reducible refine (XC.out _ (HR6.out.calls (by exact belK2 (by assumption)))).mono ?_; rintro e w' ⟨rfl, hb⟩) | (go_at_call 15; with_reducible refine (BC.out _ _ _ (HB6.out.calls (by exact belK2 (by assumption)))).mono ?_; rintro e w' ⟨rfl, hb⟩) | (go_at_call 17; with_reducible refine (TH.out _ _ _ (HT6.out.calls (by exact belK2 (by assumption)))).mono ?_; rintro e w' ⟨rfl, hb⟩) | (go_at_call 17; with_reducible refine (XH.out _ (HR6.out.calls (by exact belK2 (by assumption)))).mono ?_; rintro e w' ⟨rfl, hb⟩)
        try go_wp2_with fail
        refine hK.out _ _ ?_ (fun hHeld => ?_)
        · exact keep2 ‹_› hb (by (try dsimp only); omega) (by (try dsimp only); omega)
        clear hK K
        try simp only [Act.put, List.setIfInBounds_toArray, List.set_cons_zero, List.set_cons_succ]
        refine wpAnyH_ready (rs := [3]) (by kernel_rfl) (by simp) ?_
        refine AllReadyH.cons (o := ⟨some 64, _, _, _, _, _⟩) rfl (fun K hK => ?_) AllReadyH.nil
        go_simp
        first | (go_at_call 13; with_reducible refine (TA.out _ _ _ (HT6.out.calls (by exact belK2 (by assumption)))).mono ?_; rintro e w' ⟨rfl, hb⟩) | (go_at_call 13; with_reducible refine (XA.out _ (HR6.out.calls (by exact belK2 (by assumption)))).mono ?_; rintro e w' ⟨rfl, hb⟩) | (go_at_call 13; with_reducible refine (BA.out _ _ _ (HB6.out.calls (by exact belK2 (by assumption)))).mono ?_; rintro e w' ⟨rfl, hb⟩) | (go_at_call 15; with_reducible refine (TC.out _ _ _ (HT6.out.calls (by exact belK2 (by assumption)))).mono ?_; rintro e w' ⟨rfl, hb⟩) | (go_at_call 15; with_reducible refine (XC.out _ (HR6.out.calls (by exact belK2 (by assumption)))).mono ?_; rintro e w' ⟨rfl, hb⟩) | (go_at_call 15; with_reducible refine (BC.out _ _ _ (HB6.out.calls (by exact belK2 (by assumption)))).mono ?_; rintro e w' ⟨rfl, hb⟩) | (go_at_call 17; with_reducible refine (TH.out _ _ _ (HT6.out.calls (by exact belK2 (by assumption)))).mono ?_; rintro e w' ⟨rfl, hb⟩) | (go_at_call 17; with_reducible refine (XH.out _ (HR6.out.calls (by exact belK2 (by assumption)))).mono ?_; rintro e w' ⟨rfl, hb⟩)
        try go_wp2_with fail
        refine hK.out _ _ ?_ (fun hHeld => ?_)
        · exact keep2 ‹_› hb (by (try dsimp only); omega) (by (try dsimp only); omega)
        clear hK K
        try simp only [Act.put, List.setIfInBounds_toArray, List.set_cons_zero, List.set_cons_succ]
        refine wpAnyH_take (i := 4) (oi := ⟨some 65, _, _, _, _, _⟩) (v := ?_) rfl (by kernel_rfl) (by kernel_rfl) (by kernel_rfl) (fun _ _ _ h => h) (Or.inl ⟨by rfl, ?_⟩) (by assumption) ?_
        rotate_left
        · (intro w hSw; (try dsimp only at hSw); go_simp; (try with_reducible rfl))
        try simp only [Act.put, List.setIfInBounds_toArray, List.set_cons_zero, List.set_cons_succ]
        refine wpAnyH_take (i := 5) (oi := ⟨some 66, _, _, _, _, _⟩) (v := ?_) rfl (by kernel_rfl) (by kernel_rfl) (by kernel_rfl) (fun _ _ _ h => h) (Or.inl ⟨by rfl, ?_⟩) (by assumption) ?_
        rotate_left
        · (intro w hSw; (try dsimp only at hSw); go_simp; (try with_reducible rfl))
        try simp only [Act.put, List.setIfInBounds_toArray, List.set_cons_zero, List.set_cons_succ]
        refine wpAnyH_take (i := 6) (oi := ⟨some 67, _, _, _, _, _⟩) (v := ?_) rfl (by kernel_rfl) (by kernel_rfl) (by kernel_rfl) (fun _ _ _ h => h) (Or.inl ⟨by rfl, ?_⟩) (by assumption) ?_
        rotate_left
        · (intro w hSw; (try dsimp only at hSw); go_simp; (try with_reducible rfl))
        try simp only [Act.put, List.setIfInBounds_toArray, List.set_cons_zero, List.set_cons_succ]
        refine wpAnyH_take (i := 8) (oi := ⟨some 69, _, _, _, _, _⟩) (v := ?_) rfl (by kernel_rfl) (by kernel_rfl) (by kernel_rfl) (fun _ _ _ h => h) (Or.inl ⟨by rfl, ?_⟩) (by assumption) ?_
        rotate_left
        · (intro w hSw; (try dsimp only at hSw); go_simp; (try with_reducible rfl))
        try simp only [Act.put, List.setIfInBounds_toArray, List.set_cons_zero, List.set_cons_succ]
        refine wpAnyH_ready (rs := [7]) (by kernel_rfl) (by simp) ?_
        refine AllReadyH.cons (o := ⟨some 68, _, _, _, _, _⟩) rfl (fun K hK => ?_) AllReadyH.nil
        go_simp
        first | (go_at_call 13; with_reducible refine (TA.out _ _ _ (HT6.out.calls (by exact belK2 (by assumption)))).mono ?_; rintro e w' ⟨rfl, hb⟩) | (go_at_call 13; with_reducible refine (XA.out _ (HR6.out.calls (by exact belK2 (by assumption)))).mono ?_; rintro e w' ⟨rfl, hb⟩) | (go_at_call 13; with_reducible refine (BA.out _ _ _ (HB6.out.calls (by exact belK2 (by assumption)))).mono ?_; rintro e w' ⟨rfl, hb⟩) | (go_at_call 15; with_reducible refine (TC.out _ _ _ (HT6.out.calls (by exact belK2 (by assumption)))).mono ?_; rintro e w' ⟨rfl, hb⟩) | (go_at_call 15; with_reducible refine (XC.out _ (HR6.out.calls (by exact belK2 (by assumption)))).mono ?_; rintro e w' ⟨rfl, hb⟩) | (go_at_call 15; with_reducible refine (BC.out _ _ _ (HB6.out.calls (by exact belK2 (by assumption)))).mono ?_; rintro e w' ⟨rfl, hb⟩) | (go_at_call 17; with_reducible refine (TH.out _ _ _ (HT6.out.calls (by exact belK2 (by assumption)))).mono ?_; rintro e w' ⟨rfl, hb⟩) | (go_at_call 17; with_reducible refine (XH.out _ (HR6.out.calls (by exact belK2 (by assumption)))).mono ?_; rintro e w' ⟨rfl, hb⟩)
        try go_wp2_with fail
        refine hK.out _ _ ?_ (fun hHeld => ?_)
        · exact keep2 ‹_› hb (by (try dsimp only); omega) (by (try dsimp only); omega)
        clear hK K
        try simp only [Act.put, List.setIfInBounds_toArray, List.set_cons_zero, List.set_cons_succ]
        refine wpAnyH_ready (rs := [9]) (by kernel_rfl) (by simp) ?_
        refine AllReadyH.cons (o := ⟨some 70, _, _, _, _, _⟩) rfl (fun K hK => ?_) AllReadyH.nil
        go_simp
        first | (go_at_call 13; with_reducible refine (TA.out _ _ _ (HT6.out.calls (by exact belK2 (by assumption)))).mono ?_; rintro e w' ⟨rfl, hb⟩) | (go_at_call 13; with_reducible refine (XA.out _ (HR6.out.calls (by exact belK2 (by assumption)))).mono ?_; rintro e w' ⟨rfl, hb⟩) | (go_at_call 13; with_reducible refine (BA.out _ _ _ (HB6.out.calls (by exact belK2 (by assumption)))).mono ?_; rintro e w' ⟨rfl, hb⟩) | (go_at_call 15; with_reducible refine (TC.out _ _ _ (HT6.out.calls (by exact belK2 (by assumption)))).mono ?_; rintro e w' ⟨rfl, hb⟩) | (go_at_call 15; with_reducible refine (XC.out _ (HR6.out.calls (by exact belK2 (by assumption)))).mono ?_; rintro e w' ⟨rfl, hb⟩) | (go_at_call 15; with_reducible refine (BC.out _ _ _ (HB6.out.calls (by exact belK2 (by assumption)))).mono ?_; rintro e w' ⟨rfl, hb⟩) | (go_at_call 17; with_reducible refine (TH.out _ _ _ (HT6.out.calls (by exact belK2 (by assumption)))).mono ?_; rintro e w' ⟨rfl, hb⟩) | (go_at_call 17; with_reducible refine (XH.out _ (HR6.out.calls (by exact belK2 (by assumption)))).mono ?_; rintro e w' ⟨rfl, hb⟩)
        try go_wp2_with fail
        refine hK.out _ _ ?_ (fun hHeld => ?_)
        · exact keep2 ‹_› hb (by (try dsimp only); omega) (by (try dsimp only); omega)
        clear hK K
        try simp only [Act.put, List.setIfInBounds_toArray, List.set_cons_zero, List.set_cons_succ]
        refine wpAnyH_take (i := 10) (oi := ⟨some 71, _, _, _, _, _⟩) (v := ?_) rfl (by kernel_rfl) (by kernel_rfl) (by kernel_rfl) (fun _ _ _ h => h) (Or.inl ⟨by rfl, ?_⟩) (by assumption) ?_
        rotate_left
        · (intro w hSw; (try dsimp only at hSw); go_simp; (try with_reducible rfl))
        try simp only [Act.put, List.setIfInBounds_toArray, List.set_cons_zero, List.set_cons_succ]
        refine wpAnyH_take (i := 11) (oi := ⟨some 72, _, _, _, _, _⟩) (v := ?_) rfl (by kernel_rfl) (by kernel_rfl) (by kernel_rfl) (fun _ _ _ h => h) (Or.inl ⟨by rfl, ?_⟩) (by assumption) ?_
        rotate_left
        · (intro w hSw; (try dsimp only at hSw); go_simp; (try with_reducible rfl))
        try simp only [Act.put, List.setIfInBounds_toArray, List.set_cons_zero, List.set_cons_succ]
        refine wpAnyH_take (i := 12) (oi := ⟨some 73, _, _, _, _, _⟩) (v := ?_) rfl (by kernel_rfl) (by kernel_rfl) (by kernel_rfl) (fun _ _ _ h => h) (Or.inl ⟨by rfl, ?_⟩) (by assumption) ?_
        rotate_left
        · (intro w hSw; (try dsimp only at hSw); go_simp; (try with_reducible rfl))
        try simp only [Act.put, List.setIfInBounds_toArray, List.set_cons_zero, List.set_cons_succ]
        refine wpAnyH_take (i := 13) (oi := ⟨some 74, _, _, _, _, _⟩) (v := ?_) rfl (by kernel_rfl) (by kernel_rfl) (by kernel_rfl) (fun _ _ _ h => h) (Or.inl ⟨by rfl, ?_⟩) (by assumption) ?_
        rotate_left
        · (intro w hSw; (try dsimp only at hSw); go_simp; (try with_reducible rfl))
        try simp only [Act.put, List.setIfInBounds_toArray, List.set_cons_zero, List.set_cons_succ]
        refine wpAnyH_take (i := 14) (oi := ⟨some 75, _, _, _, _, _⟩) (v := ?_) rfl (by kernel_rfl) (by kernel_rfl) (by kernel_rfl) (fun _ _ _ h => h) (Or.inl ⟨by rfl, ?_⟩) (by assumption) ?_
        rotate_left
        · (intro w hSw; (try dsimp only at hSw); go_simp; (try with_reducible rfl))
        try simp only [Act.put, List.setIfInBounds_toArray, List.set_cons_zero, List.set_cons_succ]
        refine wpAnyH_take (i := 16) (oi := ⟨some 77, _, _, _, _, _⟩) (v := ?_) rfl (by kernel_rfl) (by kernel_rfl) (by kernel_rfl) (fun _ _ _ h => h) (Or.inl ⟨by rfl, ?_⟩) (by assumption) ?_
        rotate_left
        · (intro w hSw; (try dsimp only at hSw); go_simp; (try with_reducible rfl))
        try simp only [Act.put, List.setIfInBounds_toArray, List.set_cons_zero, List.set_cons_succ]
        refine wpAnyH_take (i := 17) (oi := ⟨some 78, _, _, _, _, _⟩) (v := ?_) rfl (by kernel_rfl) (by kernel_rfl) (by kernel_rfl) (fun _ _ _ h => h) (Or.inl ⟨by rfl, ?_⟩) (by assumption) ?_
        rotate_left
        · (intro w hSw; (try dsimp only at hSw); go_simp; (try with_reducible rfl))
        try simp only [Act.put, List.setIfInBounds_toArray, List.set_cons_zero, List.set_cons_succ]
        refine wpAnyH_ready (rs := [15]) (by kernel_rfl) (by simp) ?_
        refine AllReadyH.cons (o := ⟨some 76, _, _, _, _, _⟩) rfl (fun K hK => ?_) AllReadyH.nil
        go_simp
        first | (go_at_call 13; with_reducible refine (TA.out _ _ _ (HT6.out.calls (by exact belK2 (by assumption)))).mono ?_; rintro e w' ⟨rfl, hb⟩) | (go_at_call 13; with_reducible refine (XA.out _ (HR6.out.calls (by exact belK2 (by assumption)))).mono ?_; rintro e w' ⟨rfl, hb⟩) | (go_at_call 13; with_reducible refine (BA.out _ _ _ (HB6.out.calls (by exact belK2 (by assumption)))).mono ?_; rintro e w' ⟨rfl, hb⟩) | (go_at_call 15; with_reducible refine (TC.out _ _ _ (HT6.out.calls (by exact belK2 (by assumption)))).mono ?_; rintro e w' ⟨rfl, hb⟩) | (go_at_call 15; with_reducible refine (XC.out _ (HR6.out.calls (by exact belK2 (by assumption)))).mono ?_; rintro e w' ⟨rfl, hb⟩) | (go_at_call 15; with_reducible refine (BC.out _ _ _ (HB6.out.calls (by exact belK2 (by assumption)))).mono ?_; rintro e w' ⟨rfl, hb⟩) | (go_at_call 17; with_reducible refine (TH.out _ _ _ (HT6.out.calls (by exact belK2 (by assumption)))).mono ?_; rintro e w' ⟨rfl, hb⟩) | (go_at_call 17; with_reducible refine (XH.out _ (HR6.out.calls (by exact belK2 (by assumption)))).mono ?_; rintro e w' ⟨rfl, hb⟩)
        try go_wp2_with fail
        refine hK.out _ _ ?_ (fun hHeld => ?_)
        · exact keep2 ‹_› hb (by (try dsimp only); omega) (by (try dsimp only); omega)
        clear hK K
        try simp only [Act.put, List.setIfInBounds_toArray, List.set_cons_zero, List.set_cons_succ]
        refine wpAnyH_ready (rs := [18]) (by kernel_rfl) (by simp) ?_
        refine AllReadyH.cons (o := ⟨some 79, _, _, _, _, _⟩) rfl (fun K hK => ?_) AllReadyH.nil
        go_simp
        first | (go_at_call 13; with_reducible refine (TA.out _ _ _ (HT6.out.calls (by exact belK2 (by assumption)))).mono ?_; rintro e w' ⟨rfl, hb⟩) | (go_at_call 13; with_reducible refine (XA.out _ (HR6.out.calls (by exact belK2 (by assumption)))).mono ?_; rintro e w' ⟨rfl, hb⟩) | (go_at_call 13; with_reducible refine (BA.out _ _ _ (HB6.out.calls (by exact belK2 (by assumption)))).mono ?_; rintro e w' ⟨rfl, hb⟩) | (go_at_call 15; with_reducible refine (TC.out _ _ _ (HT6.out.calls (by exact belK2 (by assumption)))).mono ?_; rintro e w' ⟨rfl, hb⟩) | (go_at_call 15; with_reducible refine (XC.out _ (HR6.out.calls (by exact belK2 (by assumption)))).mono ?_; rintro e w' ⟨rfl, hb⟩) | (go_at_call 15; with_reducible refine (BC.out _ _ _ (HB6.out.calls (by exact belK2 (by assumption)))).mono ?_; rintro e w' ⟨rfl, hb⟩) | (go_at_call 17; with_reducible refine (TH.out _ _ _ (HT6.out.calls (by exact belK2 (by assumption)))).mono ?_; rintro e w' ⟨rfl, hb⟩) | (go_at_call 17; with_reducible refine (XH.out _ (HR6.out.calls (by exact belK2 (by assumption)))).mono ?_; rintro e w' ⟨rfl, hb⟩)
        try go_wp2_with fail
        refine hK.out _ _ ?_ (fun hHeld => ?_)
        · exact keep2 ‹_› hb (by (try dsimp only); omega) (by (try dsimp only); omega)
        clear hK K
        try simp only [Act.put, List.setIfInBounds_toArray, List.set_cons_zero, List.set_cons_succ]
        refine wpAnyH_take (i := 19) (oi := ⟨some 80, _, _, _, _, _⟩) (v := ?_) rfl (by kernel_rfl) (by kernel_rfl) (by kernel_rfl) (fun _ _ _ h => h) (Or.inl ⟨by rfl, ?_⟩) (by assumption) ?_
        rotate_left
        · (intro w hSw; (try dsimp only at hSw); go_simp; (try with_reducible rfl))
        try simp only [Act.put, List.setIfInBounds_toArray, List.set_cons_zero, List.set_cons_succ]
        refine wpAnyH_take (i := 20) (oi := ⟨some 81, _, _, _, _, _⟩) (v := ?_) rfl (by kernel_rfl) (by kernel_rfl) (by kernel_rfl) (fun _ _ _ h => h) (Or.inl ⟨by rfl, ?_⟩) (by assumption) ?_
        rotate_left
        · (intro w hSw; (try dsimp only at hSw); go_simp; (try with_reducible rfl))
        try simp only [Act.put, List.setIfInBounds_toArray, List.set_cons_zero, List.set_cons_succ]
        refine wpAnyH_take (i := 21) (oi := ⟨some 82, _, _, _, _, _⟩) (v := ?_) rfl (by kernel_rfl) (by kernel_rfl) (by kernel_rfl) (fun _ _ _ h => h) (Or.inl ⟨by rfl, ?_⟩) (by assumption) ?_
        rotate_left
        · (intro w hSw; (try dsimp only at hSw); go_simp; (try with_reducible rfl))
        try simp only [Act.put, List.setIfInBounds_toArray, List.set_cons_zero, List.set_cons_succ]
        refine wpAnyH_take (i := 22) (oi := ⟨some 83, _, _, _, _, _⟩) (v := ?_) rfl (by kernel_rfl) (by kernel_rfl) (by kernel_rfl) (fun _ _ _ h => h) (Or.inl ⟨by rfl, ?_⟩) (by assumption) ?_
        rotate_left
        · (intro w hSw; (try dsimp only at hSw); go_simp; (try with_reducible rfl))
        try simp only [Act.put, List.setIfInBounds_toArray, List.set_cons_zero, List.set_cons_succ]
        refine wpAnyH_take (i := 24) (oi := ⟨some 85, _, _, _, _, _⟩) (v := ?_) rfl (by kernel_rfl) (by kernel_rfl) (by kernel_rfl) (fun _ _ _ h => h) (Or.inl ⟨by rfl, ?_⟩) (by assumption) ?_
        rotate_left
        · (intro w hSw; (try dsimp only at hSw); go_simp; (try with_reducible rfl))
        try simp only [Act.put, List.setIfInBounds_toArray, List.set_cons_zero, List.set_cons_succ]
        refine wpAnyH_ready (rs := [23]) (by kernel_rfl) (by simp) ?_
        refine AllReadyH.cons (o := ⟨some 84, _, _, _, _, _⟩) rfl (fun K hK => ?_) AllReadyH.nil
        go_simp
        first | (go_at_call 13; with_reducible refine (TA.out _ _ _ (HT6.out.calls (by exact belK2 (by assumption)))).mono ?_; rintro e w' ⟨rfl, hb⟩) | (go_at_call 13; with_reducible refine (XA.out _ (HR6.out.calls (by exact belK2 (by assumption)))).mono ?_; rintro e w' ⟨rfl, hb⟩) | (go_at_call 13; with_reducible refine (BA.out _ _ _ (HB6.out.calls (by exact belK2 (by assumption)))).mono ?_; rintro e w' ⟨rfl, hb⟩) | (go_at_call 15; with_reducible refine (TC.out _ _ _ (HT6.out.calls (by exact belK2 (by assumption)))).mono ?_; rintro e w' ⟨rfl, hb⟩) | (go_at_call 15; with_reducible refine (XC.out _ (HR6.out.calls (by exact belK2 (by assumption)))).mono ?_; rintro e w' ⟨rfl, hb⟩) | (go_at_call 15; with_reducible refine (BC.out _ _ _ (HB6.out.calls (by exact belK2 (by assumption)))).mono ?_; rintro e w' ⟨rfl, hb⟩) | (go_at_call 17; with_reducible refine (TH.out _ _ _ (HT6.out.calls (by exact belK2 (by assumption)))).mono ?_; rintro e w' ⟨rfl, hb⟩) | (go_at_call 17; with_reducible refine (XH.out _ (HR6.out.calls (by exact belK2 (by assumption)))).mono ?_; rintro e w' ⟨rfl, hb⟩)
        try go_wp2_with fail
        refine hK.out _ _ ?_ (fun hHeld => ?_)
        · exact keep2 ‹_› hb (by (try dsimp only); omega) (by (try dsimp only); omega)
        clear hK K
        try simp only [Act.put, List.setIfInBounds_toArray, List.set_cons_zero, List.set_cons_succ]
        refine wpAnyH_ready (rs := [25]) (by kernel_rfl) (by simp) ?_
        refine AllReadyH.cons (o := ⟨some 86, _, _, _, _, _⟩) rfl (fun K hK => ?_) AllReadyH.nil
        go_simp
        first | (go_at_call 13; with_reducible refine (TA.out _ _ _ (HT6.out.calls (by exact belK2 (by assumption)))).mono ?_; rintro e w' ⟨rfl, hb⟩) | (go_at_call 13; with_reducible refine (XA.out _ (HR6.out.calls (by exact belK2 (by assumption)))).mono ?_; rintro e w' ⟨rfl, hb⟩) | (go_at_call 13; with_reducible refine (BA.out _ _ _ (HB6.out.calls (by exact belK2 (by assumption)))).mono ?_; rintro e w' ⟨rfl, hb⟩) | (go_at_call 15; with_reducible refine (TC.out _ _ _ (HT6.out.calls (by exact belK2 (by assumption)))).mono ?_; rintro e w' ⟨rfl, hb⟩) | (go_at_call 15; with_reducible refine (XC.out _ (HR6.out.calls (by exact belK2 (by assumption)))).mono ?_; rintro e w' ⟨rfl, hb⟩) | (go_at_call 15; with_reducible refine (BC.out _ _ _ (HB6.out.calls (by exact belK2 (by assumption)))).mono ?_; rintro e w' ⟨rfl, hb⟩) | (go_at_call 17; with_reducible refine (TH.out _ _ _ (HT6.out.calls (by exact belK2 (by assumption)))).mono ?_; rintro e w' ⟨rfl, hb⟩) | (go_at_call 17; with_reducible refine (XH.out _ (HR6.out.calls (by exact belK2 (by assumption)))).mono ?_; rintro e w' ⟨rfl, hb⟩)
        try go_wp2_with fail
        refine hK.out _ _ ?_ (fun hHeld => ?_)
        · exact keep2 ‹_› hb (by (try dsimp only); omega) (by (try dsimp only); omega)
        clear hK K
        try simp only [Act.put, List.setIfInBounds_toArray, List.set_cons_zero, List.set_cons_succ]
        refine wpAnyH_take (i := 26) (oi := ⟨some 87, _, _, _, _, _⟩) (v := ?_) rfl (by kernel_rfl) (by kernel_rfl) (by kernel_rfl) (fun _ _ _ h => h) (Or.inl ⟨by rfl, ?_⟩) (by assumption) ?_
        rotate_left
        · (intro w hSw; (try dsimp only at hSw); go_simp; (try with_reducible rfl))
        try simp only [Act.put, List.setIfInBounds_toArray, List.set_cons_zero, List.set_cons_succ]
        refine wpAnyH_take (i := 27) (oi := ⟨some 88, _, _, _, _, _⟩) (v := ?_) rfl (by kernel_rfl) (by kernel_rfl) (by kernel_rfl) (fun _ _ _ h => h) (Or.inl ⟨by rfl, ?_⟩) (by assumption) ?_
        rotate_left
        · (intro w hSw; (try dsimp only at hSw); go_simp; (try with_reducible rfl))
        try simp only [Act.put, List.setIfInBounds_toArray, List.set_cons_zero, List.set_cons_succ]
        refine wpAnyH_take (i := 28) (oi := ⟨some 89, _, _, _, _, _⟩) (v := ?_) rfl (by kernel_rfl) (by kernel_rfl) (by kernel_rfl) (fun _ _ _ h => h) (Or.inl ⟨by rfl, ?_⟩) (by assumption) ?_
        rotate_left
        · (intro w hSw; (try dsimp only at hSw); go_simp; (try with_reducible rfl))
        try simp only [Act.put, List.setIfInBounds_toArray, List.set_cons_zero, List.set_cons_succ]
        refine wpAnyH_take (i := 29) (oi := ⟨some 90, _, _, _, _, _⟩) (v := ?_) rfl (by kernel_rfl) (by kernel_rfl) (by kernel_rfl) (fun _ _ _ h => h) (Or.inl ⟨by rfl, ?_⟩) (by assumption) ?_
        rotate_left
        · (intro w hSw; (try dsimp only at hSw); go_simp; (try with_reducible rfl))
        try simp only [Act.put, List.setIfInBounds_toArray, List.set_cons_zero, List.set_cons_succ]
        refine wpAnyH_take (i := 30) (oi := ⟨some 91, _, _, _, _, _⟩) (v := ?_) rfl (by kernel_rfl) (by kernel_rfl) (by kernel_rfl) (fun _ _ _ h => h) (Or.inl ⟨by rfl, ?_⟩) (by assumption) ?_
        rotate_left
        · (intro w hSw; (try dsimp only at hSw); go_simp; (try with_reducible rfl))
        try simp only [Act.put, List.setIfInBounds_toArray, List.set_cons_zero, List.set_cons_succ]
        refine wpAnyH_ready (rs := [31]) (by kernel_rfl) (by simp) ?_
        refine AllReadyH.cons (o := ⟨some 92, _, _, _, _, _⟩) rfl (fun K hK => ?_) AllReadyH.nil
        go_simp
        first | (go_at_call 13; with_reducible refine (TA.out _ _ _ (HT6.out.calls (by exact belK2 (by assumption)))).mono ?_; rintro e w' ⟨rfl, hb⟩) | (go_at_call 13; with_reducible refine (XA.out _ (HR6.out.calls (by exact belK2 (by assumption)))).mono ?_; rintro e w' ⟨rfl, hb⟩) | (go_at_call 13; with_reducible refine (BA.out _ _ _ (HB6.out.calls (by exact belK2 (by assumption)))).mono ?_; rintro e w' ⟨rfl, hb⟩) | (go_at_call 15; with_reducible refine (TC.out _ _ _ (HT6.out.calls (by exact belK2 (by assumption)))).mono ?_; rintro e w' ⟨rfl, hb⟩) | (go_at_call 15; with_reducible refine (XC.out _ (HR6.out.calls (by exact belK2 (by assumption)))).mono ?_; rintro e w' ⟨rfl, hb⟩) | (go_at_call 15; with_reducible refine (BC.out _ _ _ (HB6.out.calls (by exact belK2 (by assumption)))).mono ?_; rintro e w' ⟨rfl, hb⟩) | (go_at_call 17; with_reducible refine (TH.out _ _ _ (HT6.out.calls (by exact belK2 (by assumption)))).mono ?_; rintro e w' ⟨rfl, hb⟩) | (go_at_call 17; with_reducible refine (XH.out _ (HR6.out.calls (by exact belK2 (by assumption)))).mono ?_; rintro e w' ⟨rfl, hb⟩)
        try go_wp2_with fail
        refine hK.out _ _ ?_ (fun hHeld => ?_)
        · exact keep2 ‹_› hb (by (try dsimp only); omega) (by (try dsimp only); omega)
        clear hK K
        try simp only [Act.put, List.setIfInBounds_toArray, List.set_cons_zero, List.set_cons_succ]
        refine wpAnyH_take (i := 32) (oi := ⟨some 93, _, _, _, _, _⟩) (v := ?_) rfl (by kernel_rfl) (by kernel_rfl) (by kernel_rfl) (fun _ _ _ h => h) (Or.inl ⟨by rfl, ?_⟩) (by assumption) ?_
        rotate_left
        · (intro w hSw; (try dsimp only at hSw); go_simp; (try with_reducible rfl))
        try simp only [Act.put, List.setIfInBounds_toArray, List.set_cons_zero, List.set_cons_succ]
        refine wpAnyH_take (i := 33) (oi := ⟨some 94, _, _, _, _, _⟩) (v := undef) rfl (by kernel_rfl) (by kernel_rfl) (by kernel_rfl) (fun _ _ _ h => h) (Or.inr ⟨by rfl, rfl⟩) (by assumption) ?_
        try simp only [Act.put, List.setIfInBounds_toArray, List.set_cons_zero, List.set_cons_succ]
        refine wpAnyH_ready (rs := [34]) (by kernel_rfl) (by simp) ?_
        refine AllReadyH.cons (o := ⟨some 95, _, _, _, _, _⟩) rfl (fun K hK => ?_) AllReadyH.nil
        go_simp
        refine hK.out _ _ ?_ (fun hHeld => ?_)
        · assumption
        clear hK K
        try simp only [Act.put, List.setIfInBounds_toArray, List.set_cons_zero, List.set_cons_succ]
        refine wpAnyH_take (i := 35) (oi := ⟨some 96, _, _, _, _, _⟩) (v := ?_) rfl (by kernel_rfl) (by kernel_rfl) (by kernel_rfl) (fun _ _ _ h => h) (Or.inl ⟨by rfl, ?_⟩) (by assumption) ?_
        rotate_left
        · (intro w hSw; (try dsimp only at hSw); go_simp; (try with_reducible rfl))
        try simp only [Act.put, List.setIfInBounds_toArray, List.set_cons_zero, List.set_cons_succ]
        refine wpAnyH_take (i := 36) (oi := ⟨some 97, _, _, _, _, _⟩) (v := ?_) rfl (by kernel_rfl) (by kernel_rfl) (by kernel_rfl) (fun _ _ _ h => h) (Or.inl ⟨by rfl, ?_⟩) (by assumption) ?_
        rotate_left
        · (intro w hSw; (try dsimp only at hSw); go_simp; (try with_reducible rfl))
        try simp only [Act.put, List.setIfInBounds_toArray, List.set_cons_zero, List.set_cons_succ]
        refine wpAnyH_take (i := 37) (oi := ⟨some 98, _, _, _, _, _⟩) (v := ?_) rfl (by kernel_rfl) (by kernel_rfl) (by kernel_rfl) (fun _ _ _ h => h) (Or.inl ⟨by rfl, ?_⟩) (by assumption) ?_
        rotate_left
        · (intro w hSw; (try dsimp only at hSw); go_simp; (try with_reducible rfl))
        try simp only [Act.put, List.setIfInBounds_toArray, List.set_cons_zero, List.set_cons_succ]
        refine wpAnyH_take (i := 38) (oi := ⟨some 6, _, _, _, _, _⟩) (v := ?_) rfl (by kernel_rfl) (by kernel_rfl) (by kernel_rfl) (fun _ _ _ h => h) (Or.inl ⟨by rfl, ?_⟩) (by assumption) ?_
        rotate_left
        · (intro w hSw; (try dsimp only at hSw); go_simp; (try with_reducible rfl))
        try simp only [Act.put, List.setIfInBounds_toArray, List.set_cons_zero, List.set_cons_succ]
        refine wpAnyH_done (by kernel_rfl) ?_ _
        all_goals
          have hF := belK2 ‹_ ∧ _ ∧ Below wr.heap.size wr _›
          go_wp2
          go_ret
          exact ⟨rfl, hbr.trans (hF.mono (by omega))⟩

theorem walk_PieceTurns (A : Option Addr) (cap : Nat) (l : List Pnt) (d : Int) (s t : Int) (w : World) (hr : Cor w w.heap.size A l) (hl : l.length ≤ 9223372036854775807) (hcap : l.length ≤ cap) (hd : 0 ≤ d ∧ d ≤ 255) :
    Calls Try.prog 7 #[.slice A l.length cap, .int .u8 d, P2 s t] w fun e w' => e = .returned (.bool true) ∧ Below w.heap.size w w' := by
  cases hb : boundedV l
  · exact turns6_far A cap l d s t w hr hl hcap hd hb
  · cases hq : boundedV [(s, t)]
    · exact turns6_far2 A cap l d s t w hr hl hcap hd hb hq
    · by_cases h0 : l.length = 0
      · exact turns6_none A cap l d s t w hr hl hcap hd hb hq h0
      · exact turns6_main A cap l d s t w hr hl hcap hd hb hq h0
end Go.Proofs.Ytlgfnhapjhoelaa
