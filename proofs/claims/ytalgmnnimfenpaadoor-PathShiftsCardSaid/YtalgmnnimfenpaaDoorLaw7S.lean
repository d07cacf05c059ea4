/- The walk of PathShifts: the subpaths of a path that is shifted are shifted subpaths. -/
import Derived.Test.YtalgmnnimfenpaaDoorPin7
import Derived.Test.YtalgmnnimfenpaaDoorChainNum
import Derived.Test.YtalgmnnimfenpaaDoorCorn
import Derived.Test.YtalgmnnimfenpaaDoorMoreB
namespace Go.Proofs.YtalgmnnimfenpaaDoor
open Go.RowKit
set_option linter.unusedVariables false
set_option linter.unusedSimpArgs false
set_option maxHeartbeats 16000000
set_option maxRecDepth 100000

/-- A segment of two points, three, four; shifted. -/
theorem seg_forms {g : SegV} (h : g = segV g.1.1 (segPs g)) (h3 : g.2 = 2 ∨ g.2 = 3 ∨ g.2 = 4) (b : Pnt) :
    (∃ p q, g = ((p, q, zP, zP), 2) ∧ shG b g = ((shP b p, shP b q, zP, zP), 2)) ∨ (∃ p q r, g = ((p, q, r, zP), 3) ∧ shG b g = ((shP b p, shP b q, shP b r, zP), 3)) ∨ (∃ p q r s, g = ((p, q, r, s), 4) ∧ shG b g = ((shP b p, shP b q, shP b r, shP b s), 4)) := by
  obtain ⟨⟨p, q, r, s⟩, n⟩ := g
  dsimp only at h h3
  rcases h3 with rfl | rfl | rfl
  · simp only [segPs, segV, if_true, Prod.mk.injEq] at h
    obtain ⟨⟨_, _, rfl, rfl⟩, _⟩ := h
    exact .inl ⟨p, q, rfl, rfl⟩
  · have h' : ((p, q, r, s), (3 : Int)) = ((p, q, r, zP), (3 : Int)) := h
    simp only [Prod.mk.injEq] at h'
    obtain ⟨⟨_, _, _, rfl⟩, _⟩ := h'
    exact .inr (.inl ⟨p, q, r, rfl, rfl⟩)
  · exact .inr (.inr ⟨p, q, r, s, rfl, rfl⟩)
theorem dot_shift {g : SegV} (h : g = segV g.1.1 (segPs g)) (h3 : g.2 = 2 ∨ g.2 = 3 ∨ g.2 = 4) (b : Pnt) : dotV (shG b g) = dotV g := by
  have e : ∀ x y : Pnt, decide (shP b x = shP b y) = decide (x = y) := fun x y => by rw [decide_eq_decide]; exact shP_inj
  rcases seg_forms h h3 b with ⟨p, q, h1, h2⟩ | ⟨p, q, r, h1, h2⟩ | ⟨p, q, r, s, h1, h2⟩
  · rw [h2, h1]; unfold dotV; dsimp only; rw [e]; simp
  · rw [h2, h1]; unfold dotV; dsimp only; rw [e, e]; simp
  · rw [h2, h1]; unfold dotV; dsimp only; rw [e, e, e]
theorem shS_at (b : Pnt) {F : List SubV} {i : Nat} {s : Pnt} {sg : List SegV} {cl : Bool} (h : F[i]? = some (s, sg, cl)) : (F.map (shS b))[i]? = some (shP b s, sg.map (shG b), cl) := by
  rw [List.getElem?_map, h]; rfl
theorem shifts7_far (A B : Option Addr) (cv cp : Nat) (vs : List Int) (ps : List Pnt) (bx bz : Int) (w : World) (hin : PathIn w A B cv cp vs ps) (h : bnd7 vs.length ps.length = false) :
    Calls Tryd.prog 7 #[PathA A vs.length cv B ps.length cp, P2 bx bz] w fun e w' => e = .returned (.bool true) ∧ Below w.heap.size w w' := by
  have HTB := Lib.hid (fun (x : World) (hb : Below w.heap.size w x) => hin.tb.step hb)
  obtain ⟨n, hn⟩ : ∃ n, vs.length = n := ⟨_, rfl⟩
  obtain ⟨m, hm⟩ : ∃ m, ps.length = m := ⟨_, rfl⟩
  rw [hn, hm] at h ⊢
  have HB := Lib.hid h
  clear h hn hm hin
  go_enter Tryd.func7, Tryd.ntmps7
  go_wp2_with fail
  refine (bounded7_any A B n cv m cp _).mono ?_
  rintro e w1 ⟨rfl, h1⟩
  rw [HB.out]
  have z1 := h1.size
  simp at z1
  have c1 : w1.cell? ⟨w.heap.size, 0, none⟩ = some (.slice A n cv) := (h1.cell (p := ⟨w.heap.size, 0, none⟩) (by simp; (try omega))).trans (by simp)
  have c2 : w1.cell? ⟨w.heap.size, 1, none⟩ = some (.slice B m cp) := (h1.cell (p := ⟨w.heap.size, 1, none⟩) (by simp; (try omega))).trans (by simp)
  have c3 : w1.cell? ⟨w.heap.size + 1, 0, none⟩ = some (.int .i64 bx) := (h1.cell (p := ⟨w.heap.size + 1, 0, none⟩) (by simp; (try omega))).trans (by simp)
  have c4 : w1.cell? ⟨w.heap.size + 1, 1, none⟩ = some (.int .i64 bz) := (h1.cell (p := ⟨w.heap.size + 1, 1, none⟩) (by simp; (try omega))).trans (by simp)
  have hb : Below w.heap.size w w1 := (((Below.refl _ w).alloc (Nat.le_refl _) _).alloc (by simp) _).trans (h1.mono (by simp; omega))
  clear h1
  go_wp2_with fail
  refine (shown7_any _ (HTB.out _ hb)).mono ?_
  rintro e w2 ⟨rfl, h2⟩
  go_wp2
  go_ret
  exact ⟨rfl, hb.trans (h2.mono hb.size)⟩
theorem shifts7_far2 (A B : Option Addr) (cv cp : Nat) (vs : List Int) (ps : List Pnt) (bx bz : Int) (w : World) (hin : PathIn w A B cv cp vs ps) (h : bnd7 vs.length ps.length = true) (h2 : nearB bx bz = false) :
    Calls Tryd.prog 7 #[PathA A vs.length cv B ps.length cp, P2 bx bz] w fun e w' => e = .returned (.bool true) ∧ Below w.heap.size w w' := by
  have HTB := Lib.hid (fun (x : World) (hb : Below w.heap.size w x) => hin.tb.step hb)
  obtain ⟨n, hn⟩ : ∃ n, vs.length = n := ⟨_, rfl⟩
  obtain ⟨m, hm⟩ : ∃ m, ps.length = m := ⟨_, rfl⟩
  rw [hn, hm] at h ⊢
  have HB := Lib.hid h
  have HNR := Lib.hid h2
  clear h h2 hn hm hin
  go_enter Tryd.func7, Tryd.ntmps7
  go_wp2_with fail
  refine (bounded7_any A B n cv m cp _).mono ?_
  rintro e w1 ⟨rfl, h1⟩
  rw [HB.out]
  have z1 := h1.size
  simp at z1
  have c1 : w1.cell? ⟨w.heap.size, 0, none⟩ = some (.slice A n cv) := (h1.cell (p := ⟨w.heap.size, 0, none⟩) (by simp; (try omega))).trans (by simp)
  have c2 : w1.cell? ⟨w.heap.size, 1, none⟩ = some (.slice B m cp) := (h1.cell (p := ⟨w.heap.size, 1, none⟩) (by simp; (try omega))).trans (by simp)
  have c3 : w1.cell? ⟨w.heap.size + 1, 0, none⟩ = some (.int .i64 bx) := (h1.cell (p := ⟨w.heap.size + 1, 0, none⟩) (by simp; (try omega))).trans (by simp)
  have c4 : w1.cell? ⟨w.heap.size + 1, 1, none⟩ = some (.int .i64 bz) := (h1.cell (p := ⟨w.heap.size + 1, 1, none⟩) (by simp; (try omega))).trans (by simp)
  have hb : Below w.heap.size w w1 := (((Below.refl _ w).alloc (Nat.le_refl _) _).alloc (by simp) _).trans (h1.mono (by simp; omega))
  clear h1
  go_wp2_with fail
  refine (r4near_any bx bz _).mono ?_
  rintro e w2 ⟨rfl, h2⟩
  rw [HNR.out]
  replace c1 := (h2.cell (by (try dsimp only); omega)).trans c1
  replace c2 := (h2.cell (by (try dsimp only); omega)).trans c2
  replace c3 := (h2.cell (by (try dsimp only); omega)).trans c3
  replace c4 := (h2.cell (by (try dsimp only); omega)).trans c4
  replace hb := hb.trans (h2.mono hb.size)
  have z2 := h2.size
  clear h2
  go_wp2_with fail
  refine (shown7_any _ (HTB.out _ hb)).mono ?_
  rintro e w3 ⟨rfl, h3⟩
  go_wp2
  go_ret
  exact ⟨rfl, hb.trans (h3.mono hb.size)⟩
theorem shifts7_none (A B : Option Addr) (cv cp : Nat) (vs : List Int) (ps : List Pnt) (bx bz : Int) (w : World) (hin : PathIn w A B cv cp vs ps) (h : bnd7 vs.length ps.length = true) (h2 : nearB bx bz = true) (h0 : pathE vs ps ≠ 0) :
    Calls Tryd.prog 7 #[PathA A vs.length cv B ps.length cp, P2 bx bz] w fun e w' => e = .returned (.bool true) ∧ Below w.heap.size w w' := by
  have HTB := Lib.hid (fun (x : World) (hb : Below w.heap.size w x) => hin.tb.step hb)
  obtain ⟨b1, b2⟩ := bnd_ok h
  obtain ⟨n, hn⟩ : ∃ n, vs.length = n := ⟨_, rfl⟩
  obtain ⟨m, hm⟩ : ∃ m, ps.length = m := ⟨_, rfl⟩
  obtain ⟨k, hk⟩ : ∃ k, pathE vs ps = k := ⟨_, rfl⟩
  have CHK := Lib.hid (show ∀ w, PathIn w A B cv cp vs ps → Calls Tryd.prog 16 #[PathA A n cv B m cp] w fun e w' => e = .returned (.int .i64 k) ∧ Below w.heap.size w w' from fun w hi => by
    have := q7check_any A B cv cp vs ps w hi.tb hi.rv hi.rp (by omega) (by omega)
    rw [hn, hm, hk] at this
    exact this)
  rw [hk] at h0
  have q4 : (k == 0) = false := by simpa using h0
  have q5 : (k != 0) = true := by simpa using h0
  have HIN := Lib.hid hin
  rw [hn, hm] at h ⊢
  have HB := Lib.hid h
  have HNR := Lib.hid h2
  clear h h2 hn hm hin hk h0
  go_enter Tryd.func7, Tryd.ntmps7
  go_wp2_with fail
  refine (bounded7_any A B n cv m cp _).mono ?_
  rintro e w1 ⟨rfl, h1⟩
  rw [HB.out]
  have z1 := h1.size
  simp at z1
  have c1 : w1.cell? ⟨w.heap.size, 0, none⟩ = some (.slice A n cv) := (h1.cell (p := ⟨w.heap.size, 0, none⟩) (by simp; (try omega))).trans (by simp)
  have c2 : w1.cell? ⟨w.heap.size, 1, none⟩ = some (.slice B m cp) := (h1.cell (p := ⟨w.heap.size, 1, none⟩) (by simp; (try omega))).trans (by simp)
  have c3 : w1.cell? ⟨w.heap.size + 1, 0, none⟩ = some (.int .i64 bx) := (h1.cell (p := ⟨w.heap.size + 1, 0, none⟩) (by simp; (try omega))).trans (by simp)
  have c4 : w1.cell? ⟨w.heap.size + 1, 1, none⟩ = some (.int .i64 bz) := (h1.cell (p := ⟨w.heap.size + 1, 1, none⟩) (by simp; (try omega))).trans (by simp)
  have hb : Below w.heap.size w w1 := (((Below.refl _ w).alloc (Nat.le_refl _) _).alloc (by simp) _).trans (h1.mono (by simp; omega))
  clear h1
  go_wp2_with fail
  refine (r4near_any bx bz _).mono ?_
  rintro e w2 ⟨rfl, h2⟩
  rw [HNR.out]
  replace c1 := (h2.cell (by (try dsimp only); omega)).trans c1
  replace c2 := (h2.cell (by (try dsimp only); omega)).trans c2
  replace c3 := (h2.cell (by (try dsimp only); omega)).trans c3
  replace c4 := (h2.cell (by (try dsimp only); omega)).trans c4
  replace hb := hb.trans (h2.mono hb.size)
  have z2 := h2.size
  clear h2
  go_wp2_with fail
  refine (CHK.out _ (HIN.out.calls hb)).mono ?_
  rintro e w3 ⟨rfl, h3⟩
  replace c1 := (h3.cell (by (try dsimp only); omega)).trans c1
  replace c2 := (h3.cell (by (try dsimp only); omega)).trans c2
  replace c3 := (h3.cell (by (try dsimp only); omega)).trans c3
  replace c4 := (h3.cell (by (try dsimp only); omega)).trans c4
  replace hb := hb.trans (h3.mono hb.size)
  have z3 := h3.size
  clear h3
  go_wp2_with fail
  refine (shown7_any _ (HTB.out _ hb)).mono ?_
  rintro e w4 ⟨rfl, h4⟩
  go_wp2
  go_ret
  exact ⟨rfl, hb.trans (h4.mono hb.size)⟩
theorem shifts7_main (A B : Option Addr) (cv cp : Nat) (vs : List Int) (ps : List Pnt) (bx bz : Int) (w : World) (hin : PathIn w A B cv cp vs ps) (h : bnd7 vs.length ps.length = true) (h2 : nearB bx bz = true) (h0 : pathE vs ps = 0) :
    Calls Tryd.prog 7 #[PathA A vs.length cv B ps.length cp, P2 bx bz] w fun e w' => e = .returned (.bool true) ∧ Below w.heap.size w w' := by
  have HTB := Lib.hid (fun (x : World) (hb : Below w.heap.size w x) => hin.tb.step hb)
  obtain ⟨b1, b2⟩ := bnd_ok h
  obtain ⟨n, hn⟩ : ∃ n, vs.length = n := ⟨_, rfl⟩
  obtain ⟨m, hm⟩ : ∃ m, ps.length = m := ⟨_, rfl⟩
  obtain ⟨k, hk⟩ : ∃ k, pathE vs ps = k := ⟨_, rfl⟩
  have CHK := Lib.hid (show ∀ w, PathIn w A B cv cp vs ps → Calls Tryd.prog 16 #[PathA A n cv B m cp] w fun e w' => e = .returned (.int .i64 k) ∧ Below w.heap.size w w' from fun w hi => by
    have := q7check_any A B cv cp vs ps w hi.tb hi.rv hi.rp (by omega) (by omega)
    rw [hn, hm, hk] at this
    exact this)
  obtain rfl : k = 0 := by rw [← hk]; exact h0
  obtain ⟨F, hF⟩ : ∃ F, splitE vs ps = F := ⟨_, rfl⟩
  obtain ⟨N, hN⟩ : ∃ N, F.length = N := ⟨_, rfl⟩
  obtain ⟨k2, hk2⟩ : ∃ k, pathE vs (ps.map (shP (bx, bz))) = k := ⟨_, rfl⟩
  obtain ⟨F2, hF2⟩ : ∃ F, splitE vs (ps.map (shP (bx, bz))) = F := ⟨_, rfl⟩
  have hLn : N ≤ n := by rw [← hN, ← hF, ← hn]; exact splitE_few vs ps
  have hsg : ∀ x ∈ F, x.2.1.length ≤ n := by rw [← hF, ← hn]; exact splitE_segs vs ps
  have hFs : F = splitV vs ps := by rw [← hF]; exact splitE_ok h0
  have hk72 : k2 = 0 ∨ k2 = 72 := by rw [← hk2]; exact check_shift h0 _
  have hF2s : k2 = 0 → F2 = F.map (shS (bx, bz)) := fun e => by rw [← hF2, splitE_ok (hk2.trans e), split_shift _ h0, hFs]
  obtain ⟨nr1, nr2⟩ := nearB_iff.1 h2
  have hnr := near_of_check h0
  have SPL := Lib.hid (show ∀ w, PathIn w A B cv cp vs ps → Calls Tryd.prog 11 #[PathA A n cv B m cp] w fun e w' => ∃ A' c', e = .returned (.tuple #[.slice A' N c', .int .i64 0]) ∧ Subs w' w'.heap.size A' F ∧ Below w.heap.size w w' from fun w hi => by
    have := q7split_any A B cv cp vs ps w hi.tb hi.rv hi.rp (by omega) (by omega) hi.lv hi.lp hi.mp
    rw [hn, hm, hF, hk, hN] at this
    exact this)
  have SHF := Lib.hid (show ∀ w, PathIn w A B cv cp vs ps → Calls Tryd.prog 28 #[PathA A n cv B m cp, P2 bx bz] w fun e w' => ∃ A' c' B' d', e = .returned (PathA A' n c' B' m d') ∧ Vals w' w'.heap.size A' (vs.map iV) ∧ Cor w' w'.heap.size B' (ps.map (shP (bx, bz))) ∧ ((n ≤ c' ∧ m ≤ d') ∧ d' ≤ 9223372036854775807) ∧ Below w.heap.size w w' from fun w hi => by
    have := q7shift_any A B cv cp vs ps bx bz w hi.rv hi.rp hi.nv (by omega) (by omega) (fun p hp => by have := hnr p hp; omega) nr1 nr2
    rw [hn, hm] at this
    exact this)
  have SP2 := Lib.hid (show ∀ A B cv cp w, Vals w w.heap.size A (vs.map iV) → Cor w w.heap.size B (ps.map (shP (bx, bz))) → (Tab7 w ∧ (n ≤ cv ∧ m ≤ cp) ∧ cp ≤ 9223372036854775807) → Calls Tryd.prog 11 #[PathA A n cv B m cp] w fun e w' => ∃ A' c', e = .returned (.tuple #[.slice A' F2.length c', .int .i64 k2]) ∧ Subs w' w'.heap.size A' F2 ∧ Below w.heap.size w w' from fun A B cv cp w hr hq hc => by
    have := q7split_any A B cv cp vs (ps.map (shP (bx, bz))) w hc.1 hr hq (by omega) (by rw [List.length_map]; omega) (by rw [hn]; exact hc.2.1.1) (by rw [List.length_map, hm]; exact hc.2.1.2) hc.2.2
    rw [List.length_map, hn, hm, hF2, hk2] at this
    exact this)
  have hseg : ∀ x ∈ F, ∀ (j : Nat) (g : SegV), x.2.1[j]? = some g → (g = segV g.1.1 (segPs g) ∧ (g.2 = 2 ∨ g.2 = 3 ∨ g.2 = 4)) ∧ farV g.1.1 = false ∧ ∀ p ∈ segPs g, farV p = false := fun x hx j g hg => by
    rw [hFs] at hx
    obtain ⟨e, hch, _⟩ := split_ok h0 x hx
    obtain ⟨_, i2, i3⟩ := chain_at _ _ _ _ _ hch hg
    exact ⟨⟨i2, i3⟩, split_seg_near h0 hx hg⟩
  have hst : ∀ x ∈ F, farV x.1 = false := fun x hx => by rw [hFs] at hx; exact near_start (split_near h0) hx
  have HSEG := Lib.hid hseg
  have HST := Lib.hid hst
  have HF2 := Lib.hid hF2s
  have HIN := Lib.hid hin
  have HN := Lib.hid hN
  have HSG := Lib.hid hsg
  rw [hn] at b1
  rw [hn, hm] at h ⊢
  have HB := Lib.hid h
  have HNR := Lib.hid h2
  clear h h2 hn hm hin hk h0 hF hN hk2 hF2 hsg hFs hF2s hseg hst hnr
  go_enter Tryd.func7, Tryd.ntmps7
  go_wp2_with fail
  refine (bounded7_any A B n cv m cp _).mono ?_
  rintro e w1 ⟨rfl, h1⟩
  rw [HB.out]
  have z1 := h1.size
  simp at z1
  have c1 : w1.cell? ⟨w.heap.size, 0, none⟩ = some (.slice A n cv) := (h1.cell (p := ⟨w.heap.size, 0, none⟩) (by simp; (try omega))).trans (by simp)
  have c2 : w1.cell? ⟨w.heap.size, 1, none⟩ = some (.slice B m cp) := (h1.cell (p := ⟨w.heap.size, 1, none⟩) (by simp; (try omega))).trans (by simp)
  have c3 : w1.cell? ⟨w.heap.size + 1, 0, none⟩ = some (.int .i64 bx) := (h1.cell (p := ⟨w.heap.size + 1, 0, none⟩) (by simp; (try omega))).trans (by simp)
  have c4 : w1.cell? ⟨w.heap.size + 1, 1, none⟩ = some (.int .i64 bz) := (h1.cell (p := ⟨w.heap.size + 1, 1, none⟩) (by simp; (try omega))).trans (by simp)
  have hb : Below w.heap.size w w1 := (((Below.refl _ w).alloc (Nat.le_refl _) _).alloc (by simp) _).trans (h1.mono (by simp; omega))
  clear h1
  go_wp2_with fail
  refine (r4near_any bx bz _).mono ?_
  rintro e w2 ⟨rfl, h2⟩
  rw [HNR.out]
  replace c1 := (h2.cell (by (try dsimp only); omega)).trans c1
  replace c2 := (h2.cell (by (try dsimp only); omega)).trans c2
  replace c3 := (h2.cell (by (try dsimp only); omega)).trans c3
  replace c4 := (h2.cell (by (try dsimp only); omega)).trans c4
  replace hb := hb.trans (h2.mono hb.size)
  have z2 := h2.size
  clear h2
  go_wp2_with fail
  refine (CHK.out _ (HIN.out.calls hb)).mono ?_
  rintro e w3 ⟨rfl, h3⟩
  replace c1 := (h3.cell (by (try dsimp only); omega)).trans c1
  replace c2 := (h3.cell (by (try dsimp only); omega)).trans c2
  replace c3 := (h3.cell (by (try dsimp only); omega)).trans c3
  replace c4 := (h3.cell (by (try dsimp only); omega)).trans c4
  replace hb := hb.trans (h3.mono hb.size)
  have z3 := h3.size
  clear h3
  go_wp2_with fail
  refine (shown7_any _ (HTB.out _ hb)).mono ?_
  rintro e w4 ⟨rfl, h4⟩
  replace c1 := (h4.cell (by (try dsimp only); omega)).trans c1
  replace c2 := (h4.cell (by (try dsimp only); omega)).trans c2
  replace c3 := (h4.cell (by (try dsimp only); omega)).trans c3
  replace c4 := (h4.cell (by (try dsimp only); omega)).trans c4
  replace hb := hb.trans (h4.mono hb.size)
  have z4 := h4.size
  clear h4
  go_wp2_with fail
  refine (SPL.out _ (HIN.out.calls hb)).mono ?_
  rintro e w5 ⟨A5, k5, rfl, hS, h5⟩
  replace c1 := (h5.cell (by (try dsimp only); omega)).trans c1
  replace c2 := (h5.cell (by (try dsimp only); omega)).trans c2
  replace c3 := (h5.cell (by (try dsimp only); omega)).trans c3
  replace c4 := (h5.cell (by (try dsimp only); omega)).trans c4
  replace hb := hb.trans (h5.mono hb.size)
  have z5 := h5.size
  have HS := Lib.hid hS
  clear h5 hS
  go_wp2_with fail
  refine (SHF.out _ (HIN.out.calls hb)).mono ?_
  rintro e w6 ⟨A6, k6, B6, d6, rfl, hv6, hc6, hd6, h6⟩
  replace c1 := (h6.cell (by (try dsimp only); omega)).trans c1
  replace c2 := (h6.cell (by (try dsimp only); omega)).trans c2
  replace c3 := (h6.cell (by (try dsimp only); omega)).trans c3
  replace c4 := (h6.cell (by (try dsimp only); omega)).trans c4
  replace hb := hb.trans (h6.mono hb.size)
  have z6 := h6.size
  have HS6 := Lib.hid (HS.out.calls h6)
  have HV6 := Lib.hid hv6
  have HC6 := Lib.hid hc6
  have HD6 := Lib.hid hd6
  clear h6 hv6 hc6 hd6 HS c1 c2
  have hal := (Below.refl w6.heap.size w6).alloc (Nat.le_refl _) (Obj.cells #[.slice A6 n k6, .slice B6 m d6] 25)
  have HV7 := Lib.hid (HV6.out.calls hal)
  have HC7 := Lib.hid ((HC6.out.step hal).more hal.size)
  have HS7 := Lib.hid (HS6.out.calls hal)
  replace c3 := (hal.cell (by (try dsimp only); omega)).trans c3
  replace c4 := (hal.cell (by (try dsimp only); omega)).trans c4
  replace hb := hb.trans (hal.mono hb.size)
  have z7 := hal.size
  clear hal
  go_wp2_with fail
  refine (SP2.out _ _ _ _ _ HV7.out HC7.out ⟨HTB.out _ hb, HD6.out⟩).mono ?_
  rintro e w8 ⟨A8, k8, rfl, hT, h8⟩
  replace c3 := (h8.cell (by (try dsimp only); omega)).trans c3
  replace c4 := (h8.cell (by (try dsimp only); omega)).trans c4
  replace hb := hb.trans (h8.mono hb.size)
  have z8 := h8.size
  have HS8 := Lib.hid (HS7.out.calls h8)
  clear h8 HS6 HS7
  rcases hk72 with rfl | rfl
  · obtain rfl := HF2.out rfl
    rw [List.length_map, HN.out]
    have HT := Lib.hid hT
    have p0 : ((N : Int) != (N : Int)) = false := by simp
    clear hT
    go_wp2
    go_loopw [10] (fun s10 wr => ∃ i : Nat, s10 = .int .i64 i ∧ i ≤ N ∧ Below w8.heap.size w8 wr) (fun s10 _ => N - (intOf s10).toNat)
    case atStart => exact ⟨0, rfl, Nat.zero_le _, Below.refl _ _⟩
    case round =>
      obtain ⟨i, rfl, hi, hbr⟩ := hrel
      obtain ⟨wo, hwo⟩ : ∃ wo : World, wo = wr := ⟨_, rfl⟩
      subst hwo
      have hs1 := hbr.size
      have hzz := hb.size
      by_cases hlt : i < N
      · obtain ⟨⟨⟨sx, sy⟩, sg, cl⟩, hv⟩ : ∃ v, F[i]? = some v := ⟨_, List.getElem?_eq_getElem (by rw [HN.out]; exact hlt)⟩
        have hv2 := shS_at (bx, bz) hv
        obtain ⟨ad, rfl, hB, e0, e1, ⟨Ag, cg, e2, hsg⟩, e3⟩ := (HS8.out.step hbr).at_ hv
        obtain ⟨ad2, rfl, hB2, k0, k1, ⟨Ah, ch, k2, hsh⟩, k3⟩ := (HT.out.step hbr).at_ hv2
        have hm := HSG.out _ (List.mem_of_getElem? hv)
        have hf := far_no (HST.out _ (List.mem_of_getElem? hv))
        have HSE := Lib.hid (HSEG.out _ (List.mem_of_getElem? hv))
        dsimp only [nx] at e0 e1 e2 e3 k0 k1 k2 k3 hsg hsh hm hf
        simp only [List.length_map] at k2
        have HSGM := Lib.hid hsg
        have HSHM := Lib.hid hsh
        obtain ⟨M, hmm⟩ : ∃ m, sg.length = m := ⟨_, rfl⟩
        rw [hmm] at e2 k2 hm
        have HM := Lib.hid hmm
        have hBa : (ad.add (i * 4)).block < w8.heap.size := by rw [block_add]; exact hB
        have hBb : (ad2.add (i * 4)).block < w8.heap.size := by rw [block_add]; exact hB2
        have p1 : decide ((i : Int) < (N : Int)) = true := by simp; omega
        have p2 : (0 : Int) ≤ (i : Int) := by omega
        have p3 : (i : Int) < (N : Int) := by omega
        have p4 : IntKind.i64.wrap ((i : Int) + 1) = (i : Int) + 1 := IntWalk.i64_in _ (by omega)
        have x3 := (hbr.cell (by (try dsimp only); omega)).trans c3
        have x4 := (hbr.cell (by (try dsimp only); omega)).trans c4
        have AD := Lib.hid (fun w => r4add_any sx sy bx bz w (by omega) (by omega) (by omega) (by omega))
        have NE := fun w => (show (binOp .neq 44 (P2 (sx + bx) (sy + bz)) (P2 (sx + bx) (sy + bz))).run Tryd.prog w = .ok (.bool false) w from ne_pt7 _ _ _ _ true (decide_eq_true rfl) w)
        have p5 : ((M : Int) != (M : Int)) = false := by simp
        have p6 : (cl != cl) = false := by simp
        simp only [shP] at k0 k1
        clear hv hv2 hsg hsh hmm hf
        go_upto_region 13 with fail
        have hb0 := hb
        clear hb
        go_region_held3 (fun w' => w'.cell? (ad.add (i * 4)) = some (.int .i64 sx) ∧ w'.cell? ⟨(ad.add (i * 4)).block, (ad.add (i * 4)).off + 1, none⟩ = some (.int .i64 sy) ∧ w'.cell? ⟨(ad.add (i * 4)).block, (ad.add (i * 4)).off + 2, none⟩ = some (.slice Ag M cg) ∧ w'.cell? ⟨(ad.add (i * 4)).block, (ad.add (i * 4)).off + 3, none⟩ = some (.bool cl) ∧ w'.cell? (ad2.add (i * 4)) = some (.int .i64 (sx + bx)) ∧ w'.cell? ⟨(ad2.add (i * 4)).block, (ad2.add (i * 4)).off + 1, none⟩ = some (.int .i64 (sy + bz)) ∧ w'.cell? ⟨(ad2.add (i * 4)).block, (ad2.add (i * 4)).off + 2, none⟩ = some (.slice Ah M ch) ∧ w'.cell? ⟨(ad2.add (i * 4)).block, (ad2.add (i * 4)).off + 3, none⟩ = some (.bool cl) ∧ w'.cell? ⟨w.heap.size + 1, 0, none⟩ = some (.int .i64 bx) ∧ w'.cell? ⟨w.heap.size + 1, 1, none⟩ = some (.int .i64 bz) ∧ Below wo.heap.size wo w') ((first | assumption | exact ⟨by simp [*], by simp [*], by simp [*], by simp [*], by simp [*], by simp [*], by simp [*], by simp [*], by simp [*], by simp [*], (Below.refl _ _).drew⟩ | exact keep10 ‹_› hb (by (try dsimp only); omega) (by (try dsimp only); omega) (by (try dsimp only); omega) (by (try dsimp only); omega) (by (try dsimp only); omega) (by (try dsimp only); omega) (by (try dsimp only); omega) (by (try dsimp only); omega) (by (try dsimp only); omega) (by (try dsimp only); omega) | exact keepA10 ‹_› _ (by (try dsimp only); omega) (by (try dsimp only); omega) (by (try dsimp only); omega) (by (try dsimp only); omega) (by (try dsimp only); omega) (by (try dsimp only); omega) (by (try dsimp only); omega) (by (try dsimp only); omega) (by (try dsimp only); omega) (by (try dsimp only); omega) | exact keepS10 (keepS10 ‹_› _ _ (by (try dsimp only); omega) (by (try dsimp only); omega) (by (try dsimp only); omega) (by (try dsimp only); omega) (by (try dsimp only); omega) (by (try dsimp only); omega) (by (try dsimp only); omega) (by (try dsimp only); omega) (by (try dsimp only); omega) (by (try dsimp only); omega) (by (try dsimp only); omega)) _ _ (by (try dsimp only); omega) (by (try dsimp only); omega) (by (try dsimp only); omega) (by (try dsimp only); omega) (by (try dsimp only); omega) (by (try dsimp only); omega) (by (try dsimp only); omega) (by (try dsimp only); omega) (by (try dsimp only); omega) (by (try dsimp only); omega) (by (try dsimp only); omega))) ((first | (go_at_call 30; with_reducible refine (AD.out _).mono ?_; rintro e w' ⟨rfl, hb⟩)))
        have hF := belK10 ‹_ ∧ _ ∧ _ ∧ _ ∧ _ ∧ _ ∧ _ ∧ _ ∧ _ ∧ _ ∧ Below wo.heap.size wo _›
        refine any_gen (fun z => Below wo.heap.size wo z) hF ?_
        clear hF
        rintro wp hF
        have hzp := hF.size
        have f2 := (hF.cell (p := ⟨(ad.add (i * 4)).block, (ad.add (i * 4)).off + 2, none⟩) (by (try dsimp only); omega)).trans e2
        have f3 := (hF.cell (p := ⟨(ad2.add (i * 4)).block, (ad2.add (i * 4)).off + 2, none⟩) (by (try dsimp only); omega)).trans k2
        replace x3 := (hF.cell (by (try dsimp only); omega)).trans x3
        replace x4 := (hF.cell (by (try dsimp only); omega)).trans x4
        have hFo := hF
        have hbp := hbr.trans (hF.mono hbr.size)
        clear e0 e1 e2 e3 k0 k1 k2 k3 hF NE AD
        go_wp2
        go_loopw [11] (fun s11 wx => ∃ j : Nat, s11 = .int .i64 j ∧ j ≤ M ∧ Below wp.heap.size wp wx) (fun s11 _ => M - (intOf s11).toNat)
        case atStart => exact ⟨0, rfl, Nat.zero_le _, Below.refl _ _⟩
        case round =>
          obtain ⟨j, rfl, hj, hbx⟩ := hrel
          obtain ⟨wi, hwi⟩ : ∃ wi : World, wi = wr := ⟨_, rfl⟩
          subst hwi
          have hs2 := hbx.size
          have g2 := (hbx.cell (p := ⟨(ad.add (i * 4)).block, (ad.add (i * 4)).off + 2, none⟩) (by (try dsimp only); omega)).trans f2
          have g3 := (hbx.cell (p := ⟨(ad2.add (i * 4)).block, (ad2.add (i * 4)).off + 2, none⟩) (by (try dsimp only); omega)).trans f3
          have y3 := (hbx.cell (by (try dsimp only); omega)).trans x3
          have y4 := (hbx.cell (by (try dsimp only); omega)).trans x4
          have hbv := hbp.trans (hbx.mono hbp.size)
          have hbi := hFo.trans (hbx.mono hFo.size)
          by_cases hjt : j < M
          · obtain ⟨g, hv⟩ : ∃ v, sg[j]? = some v := ⟨_, List.getElem?_eq_getElem (by rw [HM.out]; exact hjt)⟩
            obtain ⟨⟨i1, i2⟩, i3, i4⟩ := HSE.out j g hv
            have hdot := dot_shift i1 i2 (bx, bz)
            have hv2 : (sg.map (shG (bx, bz)))[j]? = some (shG (bx, bz) g) := by rw [List.getElem?_map, hv]; rfl
            obtain ⟨ag, rfl, hBg, t0, t1, t2, t3, t4, t5, t6, t7, t8⟩ := (HSGM.out.step (hbi.mono hs1)).at_ hv
            obtain ⟨ah, rfl, hBh, r0, r1, r2, r3, r4, r5, r6, r7, r8⟩ := (HSHM.out.step (hbi.mono hs1)).at_ hv2
            dsimp only [nx] at t0 t1 t2 t3 t4 t5 t6 t7 t8 r0 r1 r2 r3 r4 r5 r6 r7 r8
            have p5 : decide ((j : Int) < (M : Int)) = true := by simp; omega
            have p6 : (0 : Int) ≤ (j : Int) := by omega
            have p7 : (j : Int) < (M : Int) := by omega
            have p8 : IntKind.i64.wrap ((j : Int) + 1) = (j : Int) + 1 := IntWalk.i64_in _ (by omega)
            rcases seg_forms i1 i2 (bx, bz) with ⟨⟨x0, z0⟩, ⟨x1, z1⟩, hg, hg2⟩ | ⟨⟨x0, z0⟩, ⟨x1, z1⟩, ⟨x2, z2⟩, hg, hg2⟩ | ⟨⟨x0, z0⟩, ⟨x1, z1⟩, ⟨x2, z2⟩, ⟨x3, z3⟩, hg, hg2⟩
            · rw [hg2] at hdot r0 r1 r2 r3 r4 r5 r6 r7 r8
              rw [hg] at i3 i4 hdot t0 t1 t2 t3 t4 t5 t6 t7 t8
              obtain ⟨n0a, n0b⟩ := far_no i3
              obtain ⟨n1a, n1b⟩ := far_no (i4 (x1, z1) (by simp [segPs]))
              clear hg hg2 i1 i2 i3 i4 hv hv2
              simp only [shP, zP] at t0 t1 t2 t3 t4 t5 t6 t7 t8 r0 r1 r2 r3 r4 r5 r6 r7 r8 hdot n0a n0b n1a n1b
              have DT1 := fun w => q7dot_any (x0) (z0) (x1) (z1) (0) (0) (0) (0) (2) w
              have DT2 := fun w => q7dot_any (x0 + bx) (z0 + bz) (x1 + bx) (z1 + bz) (0) (0) (0) (0) (2) w
              simp only [hdot] at DT2
              obtain ⟨dv, hdv⟩ : ∃ d, dotV ((((x0, z0), (x1, z1), (0, 0), (0, 0))), 2) = d := ⟨_, rfl⟩
              simp only [hdv] at DT1 DT2
              have D1 := Lib.hid DT1
              have D2 := Lib.hid DT2
              clear DT1 DT2 hdv hdot
              have hBh2 : (ah.add (j * 9)).block < w8.heap.size := by rw [block_add]; exact hBh
              have g3a := fun o => (World.cell?_alloc_old wi o ⟨(ad2.add (i * 4)).block, (ad2.add (i * 4)).off + 2, none⟩ (by (try dsimp only); omega)).trans g3
              have r0a := fun o => (World.cell?_alloc_old wi o (ah.add (j * 9)) (by (try dsimp only); omega)).trans r0
              have r1a := fun o => (World.cell?_alloc_old wi o ⟨(ah.add (j * 9)).block, (ah.add (j * 9)).off + 1, none⟩ (by (try dsimp only); omega)).trans r1
              have r2a := fun o => (World.cell?_alloc_old wi o ⟨(ah.add (j * 9)).block, (ah.add (j * 9)).off + 2, none⟩ (by (try dsimp only); omega)).trans r2
              have r3a := fun o => (World.cell?_alloc_old wi o ⟨(ah.add (j * 9)).block, (ah.add (j * 9)).off + 3, none⟩ (by (try dsimp only); omega)).trans r3
              have r4a := fun o => (World.cell?_alloc_old wi o ⟨(ah.add (j * 9)).block, (ah.add (j * 9)).off + 4, none⟩ (by (try dsimp only); omega)).trans r4
              have r5a := fun o => (World.cell?_alloc_old wi o ⟨(ah.add (j * 9)).block, (ah.add (j * 9)).off + 5, none⟩ (by (try dsimp only); omega)).trans r5
              have r6a := fun o => (World.cell?_alloc_old wi o ⟨(ah.add (j * 9)).block, (ah.add (j * 9)).off + 6, none⟩ (by (try dsimp only); omega)).trans r6
              have r7a := fun o => (World.cell?_alloc_old wi o ⟨(ah.add (j * 9)).block, (ah.add (j * 9)).off + 7, none⟩ (by (try dsimp only); omega)).trans r7
              have r8a := fun o => (World.cell?_alloc_old wi o ⟨(ah.add (j * 9)).block, (ah.add (j * 9)).off + 8, none⟩ (by (try dsimp only); omega)).trans r8
              have q1 : ((2 : Int) != 2) = false := by decide
              have q2 : (dv != dv) = false := by simp
              go_upto_region 20 with fail
              refine any_gen (fun z => (z.cell? ⟨wi.heap.size, 0, none⟩ = some (.int .i64 (x0)) ∧ z.cell? ⟨wi.heap.size, 1, none⟩ = some (.int .i64 (z0)) ∧ z.cell? ⟨wi.heap.size, 2, none⟩ = some (.int .i64 (x1)) ∧ z.cell? ⟨wi.heap.size, 3, none⟩ = some (.int .i64 (z1)) ∧ z.cell? ⟨wi.heap.size, 4, none⟩ = some (.int .i64 (0)) ∧ z.cell? ⟨wi.heap.size, 5, none⟩ = some (.int .i64 (0)) ∧ z.cell? ⟨wi.heap.size, 6, none⟩ = some (.int .i64 (0)) ∧ z.cell? ⟨wi.heap.size, 7, none⟩ = some (.int .i64 (0)) ∧ z.cell? ⟨wi.heap.size, 8, none⟩ = some (.int .i64 (2)) ∧ z.cell? ⟨wi.heap.size + 1, 0, none⟩ = some (.int .i64 (x0 + bx)) ∧ z.cell? ⟨wi.heap.size + 1, 1, none⟩ = some (.int .i64 (z0 + bz)) ∧ z.cell? ⟨wi.heap.size + 1, 2, none⟩ = some (.int .i64 (x1 + bx)) ∧ z.cell? ⟨wi.heap.size + 1, 3, none⟩ = some (.int .i64 (z1 + bz)) ∧ z.cell? ⟨wi.heap.size + 1, 4, none⟩ = some (.int .i64 (0)) ∧ z.cell? ⟨wi.heap.size + 1, 5, none⟩ = some (.int .i64 (0)) ∧ z.cell? ⟨wi.heap.size + 1, 6, none⟩ = some (.int .i64 (0)) ∧ z.cell? ⟨wi.heap.size + 1, 7, none⟩ = some (.int .i64 (0)) ∧ z.cell? ⟨wi.heap.size + 1, 8, none⟩ = some (.int .i64 (2))) ∧ (z.cell? ⟨w.heap.size + 1, 0, none⟩ = some (.int .i64 bx) ∧ z.cell? ⟨w.heap.size + 1, 1, none⟩ = some (.int .i64 bz)) ∧ wi.heap.size + 1 + 1 ≤ z.heap.size ∧ Below wi.heap.size wi z) ⟨⟨by simp [go_sem], by simp [go_sem], by simp [go_sem], by simp [go_sem], by simp [go_sem], by simp [go_sem], by simp [go_sem], by simp [go_sem], by simp [go_sem], by simp [go_sem], by simp [go_sem], by simp [go_sem], by simp [go_sem], by simp [go_sem], by simp [go_sem], by simp [go_sem], by simp [go_sem], by simp [go_sem]⟩, ⟨(World.cell?_alloc_old _ _ _ (by simp; omega)).trans ((World.cell?_alloc_old _ _ _ (by (try dsimp only); omega)).trans y3), (World.cell?_alloc_old _ _ _ (by simp; omega)).trans ((World.cell?_alloc_old _ _ _ (by (try dsimp only); omega)).trans y4)⟩, by simp, ((Below.refl _ _).alloc (Nat.le_refl _) _).alloc (by simp) _⟩ ?_
              clear t0 t1 t2 t3 t4 t5 t6 t7 t8 r0 r1 r2 r3 r4 r5 r6 r7 r8 y3 y4 g2 g3 g3a r0a r1a r2a r3a r4a r5a r6a r7a r8a
              rintro w4 ⟨⟨a0, a1, a2, a3, a4, a5, a6, a7, a8, a9, a10, a11, a12, a13, a14, a15, a16, a17⟩, ⟨y3, y4⟩, hz4, hb4⟩
              go_region_held3 (fun w' => w'.cell? ⟨wi.heap.size, 0, none⟩ = some (.int .i64 (x0)) ∧ w'.cell? ⟨wi.heap.size, 1, none⟩ = some (.int .i64 (z0)) ∧ w'.cell? ⟨wi.heap.size, 2, none⟩ = some (.int .i64 (x1)) ∧ w'.cell? ⟨wi.heap.size, 3, none⟩ = some (.int .i64 (z1)) ∧ w'.cell? ⟨wi.heap.size, 4, none⟩ = some (.int .i64 (0)) ∧ w'.cell? ⟨wi.heap.size, 5, none⟩ = some (.int .i64 (0)) ∧ w'.cell? ⟨wi.heap.size, 6, none⟩ = some (.int .i64 (0)) ∧ w'.cell? ⟨wi.heap.size, 7, none⟩ = some (.int .i64 (0)) ∧ w'.cell? ⟨wi.heap.size, 8, none⟩ = some (.int .i64 (2)) ∧ w'.cell? ⟨wi.heap.size + 1, 0, none⟩ = some (.int .i64 (x0 + bx)) ∧ w'.cell? ⟨wi.heap.size + 1, 1, none⟩ = some (.int .i64 (z0 + bz)) ∧ w'.cell? ⟨wi.heap.size + 1, 2, none⟩ = some (.int .i64 (x1 + bx)) ∧ w'.cell? ⟨wi.heap.size + 1, 3, none⟩ = some (.int .i64 (z1 + bz)) ∧ w'.cell? ⟨wi.heap.size + 1, 4, none⟩ = some (.int .i64 (0)) ∧ w'.cell? ⟨wi.heap.size + 1, 5, none⟩ = some (.int .i64 (0)) ∧ w'.cell? ⟨wi.heap.size + 1, 6, none⟩ = some (.int .i64 (0)) ∧ w'.cell? ⟨wi.heap.size + 1, 7, none⟩ = some (.int .i64 (0)) ∧ w'.cell? ⟨wi.heap.size + 1, 8, none⟩ = some (.int .i64 (2)) ∧ Below w4.heap.size w4 w') ((first | assumption | exact ⟨by simp [*], by simp [*], by simp [*], by simp [*], by simp [*], by simp [*], by simp [*], by simp [*], by simp [*], by simp [*], by simp [*], by simp [*], by simp [*], by simp [*], by simp [*], by simp [*], by simp [*], by simp [*], (Below.refl _ _).drew⟩ | exact keep18 ‹_› hb (by (try dsimp only); omega) (by (try dsimp only); omega) (by (try dsimp only); omega) (by (try dsimp only); omega) (by (try dsimp only); omega) (by (try dsimp only); omega) (by (try dsimp only); omega) (by (try dsimp only); omega) (by (try dsimp only); omega) (by (try dsimp only); omega) (by (try dsimp only); omega) (by (try dsimp only); omega) (by (try dsimp only); omega) (by (try dsimp only); omega) (by (try dsimp only); omega) (by (try dsimp only); omega) (by (try dsimp only); omega) (by (try dsimp only); omega) | exact keepA18 ‹_› _ (by (try dsimp only); omega) (by (try dsimp only); omega) (by (try dsimp only); omega) (by (try dsimp only); omega) (by (try dsimp only); omega) (by (try dsimp only); omega) (by (try dsimp only); omega) (by (try dsimp only); omega) (by (try dsimp only); omega) (by (try dsimp only); omega) (by (try dsimp only); omega) (by (try dsimp only); omega) (by (try dsimp only); omega) (by (try dsimp only); omega) (by (try dsimp only); omega) (by (try dsimp only); omega) (by (try dsimp only); omega) (by (try dsimp only); omega) | exact keepS18 (keepS18 ‹_› _ _ (by (try dsimp only); omega) (by (try dsimp only); omega) (by (try dsimp only); omega) (by (try dsimp only); omega) (by (try dsimp only); omega) (by (try dsimp only); omega) (by (try dsimp only); omega) (by (try dsimp only); omega) (by (try dsimp only); omega) (by (try dsimp only); omega) (by (try dsimp only); omega) (by (try dsimp only); omega) (by (try dsimp only); omega) (by (try dsimp only); omega) (by (try dsimp only); omega) (by (try dsimp only); omega) (by (try dsimp only); omega) (by (try dsimp only); omega) (by (try dsimp only); omega)) _ _ (by (try dsimp only); omega) (by (try dsimp only); omega) (by (try dsimp only); omega) (by (try dsimp only); omega) (by (try dsimp only); omega) (by (try dsimp only); omega) (by (try dsimp only); omega) (by (try dsimp only); omega) (by (try dsimp only); omega) (by (try dsimp only); omega) (by (try dsimp only); omega) (by (try dsimp only); omega) (by (try dsimp only); omega) (by (try dsimp only); omega) (by (try dsimp only); omega) (by (try dsimp only); omega) (by (try dsimp only); omega) (by (try dsimp only); omega) (by (try dsimp only); omega))) ((first | (go_at_call 21; with_reducible refine (D1.out _).mono ?_; rintro e w' ⟨rfl, hb⟩) | (go_at_call 21; with_reducible refine (D2.out _).mono ?_; rintro e w' ⟨rfl, hb⟩)))
              have hF := belK18 ‹_ ∧ _ ∧ _ ∧ _ ∧ _ ∧ _ ∧ _ ∧ _ ∧ _ ∧ _ ∧ _ ∧ _ ∧ _ ∧ _ ∧ _ ∧ _ ∧ _ ∧ _ ∧ Below w4.heap.size w4 _›
              refine any_gen (fun z => Below w4.heap.size w4 z) hF ?_
              clear hF
              rintro w9 hF
              have hz9 := hF.size
              go_wp2
              go_loopw [14] (fun s14 wy => ∃ k : Nat, s14 = .int .i64 k ∧ k ≤ 2 ∧ Below w4.heap.size w4 wy) (fun s14 _ => 2 - (intOf s14).toNat)
              case atStart => exact ⟨0, rfl, Nat.zero_le _, hF⟩
              case round =>
                obtain ⟨k, rfl, hk, hby⟩ := hrel
                obtain ⟨wk, hwk⟩ : ∃ wk : World, wk = wr := ⟨_, rfl⟩
                subst hwk
                have hz5 := hby.size
                have o0 := (hby.cell (p := ⟨wi.heap.size, 0, none⟩) (by (try dsimp only); omega)).trans a0
                have o1 := (hby.cell (p := ⟨wi.heap.size, 1, none⟩) (by (try dsimp only); omega)).trans a1
                have o2 := (hby.cell (p := ⟨wi.heap.size, 2, none⟩) (by (try dsimp only); omega)).trans a2
                have o3 := (hby.cell (p := ⟨wi.heap.size, 3, none⟩) (by (try dsimp only); omega)).trans a3
                have o4 := (hby.cell (p := ⟨wi.heap.size, 4, none⟩) (by (try dsimp only); omega)).trans a4
                have o5 := (hby.cell (p := ⟨wi.heap.size, 5, none⟩) (by (try dsimp only); omega)).trans a5
                have o6 := (hby.cell (p := ⟨wi.heap.size, 6, none⟩) (by (try dsimp only); omega)).trans a6
                have o7 := (hby.cell (p := ⟨wi.heap.size, 7, none⟩) (by (try dsimp only); omega)).trans a7
                have o8 := (hby.cell (p := ⟨wi.heap.size, 8, none⟩) (by (try dsimp only); omega)).trans a8
                have u0 := (hby.cell (p := ⟨wi.heap.size + 1, 0, none⟩) (by (try dsimp only); omega)).trans a9
                have u1 := (hby.cell (p := ⟨wi.heap.size + 1, 1, none⟩) (by (try dsimp only); omega)).trans a10
                have u2 := (hby.cell (p := ⟨wi.heap.size + 1, 2, none⟩) (by (try dsimp only); omega)).trans a11
                have u3 := (hby.cell (p := ⟨wi.heap.size + 1, 3, none⟩) (by (try dsimp only); omega)).trans a12
                have u4 := (hby.cell (p := ⟨wi.heap.size + 1, 4, none⟩) (by (try dsimp only); omega)).trans a13
                have u5 := (hby.cell (p := ⟨wi.heap.size + 1, 5, none⟩) (by (try dsimp only); omega)).trans a14
                have u6 := (hby.cell (p := ⟨wi.heap.size + 1, 6, none⟩) (by (try dsimp only); omega)).trans a15
                have u7 := (hby.cell (p := ⟨wi.heap.size + 1, 7, none⟩) (by (try dsimp only); omega)).trans a16
                have u8 := (hby.cell (p := ⟨wi.heap.size + 1, 8, none⟩) (by (try dsimp only); omega)).trans a17
                have v3 := (hby.cell (by (try dsimp only); omega)).trans y3
                have v4 := (hby.cell (by (try dsimp only); omega)).trans y4
                obtain rfl | rfl | rfl : k = 0 ∨ k = 1 ∨ k = 2 := by omega
                · have AD := Lib.hid (fun w => r4add_any x0 z0 bx bz w (by omega) (by omega) (by omega) (by omega))
                  have NE := fun w => (show (binOp .neq 44 (P2 (x0 + bx) (z0 + bz)) (P2 (x0 + bx) (z0 + bz))).run Tryd.prog w = .ok (.bool false) w from ne_pt7 _ _ _ _ true (decide_eq_true rfl) w)
                  go_upto_region 25 with fail
                  go_region_held3 (fun w' => w'.cell? ⟨wi.heap.size, 0, none⟩ = some (.int .i64 (x0)) ∧ w'.cell? ⟨wi.heap.size, 1, none⟩ = some (.int .i64 (z0)) ∧ w'.cell? ⟨wi.heap.size + 1, 0, none⟩ = some (.int .i64 (x0 + bx)) ∧ w'.cell? ⟨wi.heap.size + 1, 1, none⟩ = some (.int .i64 (z0 + bz)) ∧ w'.cell? ⟨w.heap.size + 1, 0, none⟩ = some (.int .i64 bx) ∧ w'.cell? ⟨w.heap.size + 1, 1, none⟩ = some (.int .i64 bz) ∧ Below wk.heap.size wk w') ((first | assumption | exact ⟨by simp [*], by simp [*], by simp [*], by simp [*], by simp [*], by simp [*], (Below.refl _ _).drew⟩ | exact keep6 ‹_› hb (by (try dsimp only); omega) (by (try dsimp only); omega) (by (try dsimp only); omega) (by (try dsimp only); omega) (by (try dsimp only); omega) (by (try dsimp only); omega) | exact keepA6 ‹_› _ (by (try dsimp only); omega) (by (try dsimp only); omega) (by (try dsimp only); omega) (by (try dsimp only); omega) (by (try dsimp only); omega) (by (try dsimp only); omega) | exact keepS6 (keepS6 ‹_› _ _ (by (try dsimp only); omega) (by (try dsimp only); omega) (by (try dsimp only); omega) (by (try dsimp only); omega) (by (try dsimp only); omega) (by (try dsimp only); omega) (by (try dsimp only); omega)) _ _ (by (try dsimp only); omega) (by (try dsimp only); omega) (by (try dsimp only); omega) (by (try dsimp only); omega) (by (try dsimp only); omega) (by (try dsimp only); omega) (by (try dsimp only); omega))) ((first | (go_at_call 30; with_reducible refine (AD.out _).mono ?_; rintro e w' ⟨rfl, hb⟩)))
                  have hG := belK6 ‹_ ∧ _ ∧ _ ∧ _ ∧ _ ∧ _ ∧ Below wk.heap.size wk _›
                  go_wp2
                  go_roundw
                  case rel => exact ⟨1, rfl, by omega, hby.trans (hG.mono hby.size)⟩
                  case measure => simp [intOf]
                · have AD := Lib.hid (fun w => r4add_any x1 z1 bx bz w (by omega) (by omega) (by omega) (by omega))
                  have NE := fun w => (show (binOp .neq 44 (P2 (x1 + bx) (z1 + bz)) (P2 (x1 + bx) (z1 + bz))).run Tryd.prog w = .ok (.bool false) w from ne_pt7 _ _ _ _ true (decide_eq_true rfl) w)
                  go_upto_region 25 with fail
                  go_region_held3 (fun w' => w'.cell? ⟨wi.heap.size, 2, none⟩ = some (.int .i64 (x1)) ∧ w'.cell? ⟨wi.heap.size, 3, none⟩ = some (.int .i64 (z1)) ∧ w'.cell? ⟨wi.heap.size + 1, 2, none⟩ = some (.int .i64 (x1 + bx)) ∧ w'.cell? ⟨wi.heap.size + 1, 3, none⟩ = some (.int .i64 (z1 + bz)) ∧ w'.cell? ⟨w.heap.size + 1, 0, none⟩ = some (.int .i64 bx) ∧ w'.cell? ⟨w.heap.size + 1, 1, none⟩ = some (.int .i64 bz) ∧ Below wk.heap.size wk w') ((first | assumption | exact ⟨by simp [*], by simp [*], by simp [*], by simp [*], by simp [*], by simp [*], (Below.refl _ _).drew⟩ | exact keep6 ‹_› hb (by (try dsimp only); omega) (by (try dsimp only); omega) (by (try dsimp only); omega) (by (try dsimp only); omega) (by (try dsimp only); omega) (by (try dsimp only); omega) | exact keepA6 ‹_› _ (by (try dsimp only); omega) (by (try dsimp only); omega) (by (try dsimp only); omega) (by (try dsimp only); omega) (by (try dsimp only); omega) (by (try dsimp only); omega) | exact keepS6 (keepS6 ‹_› _ _ (by (try dsimp only); omega) (by (try dsimp only); omega) (by (try dsimp only); omega) (by (try dsimp only); omega) (by (try dsimp only); omega) (by (try dsimp only); omega) (by (try dsimp only); omega)) _ _ (by (try dsimp only); omega) (by (try dsimp only); omega) (by (try dsimp only); omega) (by (try dsimp only); omega) (by (try dsimp only); omega) (by (try dsimp only); omega) (by (try dsimp only); omega))) ((first | (go_at_call 30; with_reducible refine (AD.out _).mono ?_; rintro e w' ⟨rfl, hb⟩)))
                  have hG := belK6 ‹_ ∧ _ ∧ _ ∧ _ ∧ _ ∧ _ ∧ Below wk.heap.size wk _›
                  go_wp2
                  go_roundw
                  case rel => exact ⟨2, rfl, by omega, hby.trans (hG.mono hby.size)⟩
                  case measure => simp [intOf]
                · have hbE := hbx.trans ((hb4.trans (hby.mono hb4.size)).mono hs2)
                  go_wp2
                  go_roundw
                  case rel => exact ⟨j + 1, by go_num, by omega, hbE⟩
                  case measure => simp [intOf]; omega
            · rw [hg2] at hdot r0 r1 r2 r3 r4 r5 r6 r7 r8
              rw [hg] at i3 i4 hdot t0 t1 t2 t3 t4 t5 t6 t7 t8
              obtain ⟨n0a, n0b⟩ := far_no i3
              obtain ⟨n1a, n1b⟩ := far_no (i4 (x1, z1) (by simp [segPs]))
              obtain ⟨n2a, n2b⟩ := far_no (i4 (x2, z2) (by simp [segPs]))
              clear hg hg2 i1 i2 i3 i4 hv hv2
              simp only [shP, zP] at t0 t1 t2 t3 t4 t5 t6 t7 t8 r0 r1 r2 r3 r4 r5 r6 r7 r8 hdot n0a n0b n1a n1b n2a n2b
              have DT1 := fun w => q7dot_any (x0) (z0) (x1) (z1) (x2) (z2) (0) (0) (3) w
              have DT2 := fun w => q7dot_any (x0 + bx) (z0 + bz) (x1 + bx) (z1 + bz) (x2 + bx) (z2 + bz) (0) (0) (3) w
              simp only [hdot] at DT2
              obtain ⟨dv, hdv⟩ : ∃ d, dotV ((((x0, z0), (x1, z1), (x2, z2), (0, 0))), 3) = d := ⟨_, rfl⟩
              simp only [hdv] at DT1 DT2
              have D1 := Lib.hid DT1
              have D2 := Lib.hid DT2
              clear DT1 DT2 hdv hdot
              have hBh2 : (ah.add (j * 9)).block < w8.heap.size := by rw [block_add]; exact hBh
              have g3a := fun o => (World.cell?_alloc_old wi o ⟨(ad2.add (i * 4)).block, (ad2.add (i * 4)).off + 2, none⟩ (by (try dsimp only); omega)).trans g3
              have r0a := fun o => (World.cell?_alloc_old wi o (ah.add (j * 9)) (by (try dsimp only); omega)).trans r0
              have r1a := fun o => (World.cell?_alloc_old wi o ⟨(ah.add (j * 9)).block, (ah.add (j * 9)).off + 1, none⟩ (by (try dsimp only); omega)).trans r1
              have r2a := fun o => (World.cell?_alloc_old wi o ⟨(ah.add (j * 9)).block, (ah.add (j * 9)).off + 2, none⟩ (by (try dsimp only); omega)).trans r2
              have r3a := fun o => (World.cell?_alloc_old wi o ⟨(ah.add (j * 9)).block, (ah.add (j * 9)).off + 3, none⟩ (by (try dsimp only); omega)).trans r3
              have r4a := fun o => (World.cell?_alloc_old wi o ⟨(ah.add (j * 9)).block, (ah.add (j * 9)).off + 4, none⟩ (by (try dsimp only); omega)).trans r4
              have r5a := fun o => (World.cell?_alloc_old wi o ⟨(ah.add (j * 9)).block, (ah.add (j * 9)).off + 5, none⟩ (by (try dsimp only); omega)).trans r5
              have r6a := fun o => (World.cell?_alloc_old wi o ⟨(ah.add (j * 9)).block, (ah.add (j * 9)).off + 6, none⟩ (by (try dsimp only); omega)).trans r6
              have r7a := fun o => (World.cell?_alloc_old wi o ⟨(ah.add (j * 9)).block, (ah.add (j * 9)).off + 7, none⟩ (by (try dsimp only); omega)).trans r7
              have r8a := fun o => (World.cell?_alloc_old wi o ⟨(ah.add (j * 9)).block, (ah.add (j * 9)).off + 8, none⟩ (by (try dsimp only); omega)).trans r8
              have q1 : ((3 : Int) != 3) = false := by decide
              have q2 : (dv != dv) = false := by simp
              go_upto_region 20 with fail
              refine any_gen (fun z => (z.cell? ⟨wi.heap.size, 0, none⟩ = some (.int .i64 (x0)) ∧ z.cell? ⟨wi.heap.size, 1, none⟩ = some (.int .i64 (z0)) ∧ z.cell? ⟨wi.heap.size, 2, none⟩ = some (.int .i64 (x1)) ∧ z.cell? ⟨wi.heap.size, 3, none⟩ = some (.int .i64 (z1)) ∧ z.cell? ⟨wi.heap.size, 4, none⟩ = some (.int .i64 (x2)) ∧ z.cell? ⟨wi.heap.size, 5, none⟩ = some (.int .i64 (z2)) ∧ z.cell? ⟨wi.heap.size, 6, none⟩ = some (.int .i64 (0)) ∧ z.cell? ⟨wi.heap.size, 7, none⟩ = some (.int .i64 (0)) ∧ z.cell? ⟨wi.heap.size, 8, none⟩ = some (.int .i64 (3)) ∧ z.cell? ⟨wi.heap.size + 1, 0, none⟩ = some (.int .i64 (x0 + bx)) ∧ z.cell? ⟨wi.heap.size + 1, 1, none⟩ = some (.int .i64 (z0 + bz)) ∧ z.cell? ⟨wi.heap.size + 1, 2, none⟩ = some (.int .i64 (x1 + bx)) ∧ z.cell? ⟨wi.heap.size + 1, 3, none⟩ = some (.int .i64 (z1 + bz)) ∧ z.cell? ⟨wi.heap.size + 1, 4, none⟩ = some (.int .i64 (x2 + bx)) ∧ z.cell? ⟨wi.heap.size + 1, 5, none⟩ = some (.int .i64 (z2 + bz)) ∧ z.cell? ⟨wi.heap.size + 1, 6, none⟩ = some (.int .i64 (0)) ∧ z.cell? ⟨wi.heap.size + 1, 7, none⟩ = some (.int .i64 (0)) ∧ z.cell? ⟨wi.heap.size + 1, 8, none⟩ = some (.int .i64 (3))) ∧ (z.cell? ⟨w.heap.size + 1, 0, none⟩ = some (.int .i64 bx) ∧ z.cell? ⟨w.heap.size + 1, 1, none⟩ = some (.int .i64 bz)) ∧ wi.heap.size + 1 + 1 ≤ z.heap.size ∧ Below wi.heap.size wi z) ⟨⟨by simp [go_sem], by simp [go_sem], by simp [go_sem], by simp [go_sem], by simp [go_sem], by simp [go_sem], by simp [go_sem], by simp [go_sem], by simp [go_sem], by simp [go_sem], by simp [go_sem], by simp [go_sem], by simp [go_sem], by simp [go_sem], by simp [go_sem], by simp [go_sem], by simp [go_sem], by simp [go_sem]⟩, ⟨(World.cell?_alloc_old _ _ _ (by simp; omega)).trans ((World.cell?_alloc_old _ _ _ (by (try dsimp only); omega)).trans y3), (World.cell?_alloc_old _ _ _ (by simp; omega)).trans ((World.cell?_alloc_old _ _ _ (by (try dsimp only); omega)).trans y4)⟩, by simp, ((Below.refl _ _).alloc (Nat.le_refl _) _).alloc (by simp) _⟩ ?_
              clear t0 t1 t2 t3 t4 t5 t6 t7 t8 r0 r1 r2 r3 r4 r5 r6 r7 r8 y3 y4 g2 g3 g3a r0a r1a r2a r3a r4a r5a r6a r7a r8a
              rintro w4 ⟨⟨a0, a1, a2, a3, a4, a5, a6, a7, a8, a9, a10, a11, a12, a13, a14, a15, a16, a17⟩, ⟨y3, y4⟩, hz4, hb4⟩
              go_region_held3 (fun w' => w'.cell? ⟨wi.heap.size, 0, none⟩ = some (.int .i64 (x0)) ∧ w'.cell? ⟨wi.heap.size, 1, none⟩ = some (.int .i64 (z0)) ∧ w'.cell? ⟨wi.heap.size, 2, none⟩ = some (.int .i64 (x1)) ∧ w'.cell? ⟨wi.heap.size, 3, none⟩ = some (.int .i64 (z1)) ∧ w'.cell? ⟨wi.heap.size, 4, none⟩ = some (.int .i64 (x2)) ∧ w'.cell? ⟨wi.heap.size, 5, none⟩ = some (.int .i64 (z2)) ∧ w'.cell? ⟨wi.heap.size, 6, none⟩ = some (.int .i64 (0)) ∧ w'.cell? ⟨wi.heap.size, 7, none⟩ = some (.int .i64 (0)) ∧ w'.cell? ⟨wi.heap.size, 8, none⟩ = some (.int .i64 (3)) ∧ w'.cell? ⟨wi.heap.size + 1, 0, none⟩ = some (.int .i64 (x0 + bx)) ∧ w'.cell? ⟨wi.heap.size + 1, 1, none⟩ = some (.int .i64 (z0 + bz)) ∧ w'.cell? ⟨wi.heap.size + 1, 2, none⟩ = some (.int .i64 (x1 + bx)) ∧ w'.cell? ⟨wi.heap.size + 1, 3, none⟩ = some (.int .i64 (z1 + bz)) ∧ w'.cell? ⟨wi.heap.size + 1, 4, none⟩ = some (.int .i64 (x2 + bx)) ∧ w'.cell? ⟨wi.heap.size + 1, 5, none⟩ = some (.int .i64 (z2 + bz)) ∧ w'.cell? ⟨wi.heap.size + 1, 6, none⟩ = some (.int .i64 (0)) ∧ w'.cell? ⟨wi.heap.size + 1, 7, none⟩ = some (.int .i64 (0)) ∧ w'.cell? ⟨wi.heap.size + 1, 8, none⟩ = some (.int .i64 (3)) ∧ Below w4.heap.size w4 w') ((first | assumption | exact ⟨by simp [*], by simp [*], by simp [*], by simp [*], by simp [*], by simp [*], by simp [*], by simp [*], by simp [*], by simp [*], by simp [*], by simp [*], by simp [*], by simp [*], by simp [*], by simp [*], by simp [*], by simp [*], (Below.refl _ _).drew⟩ | exact keep18 ‹_› hb (by (try dsimp only); omega) (by (try dsimp only); omega) (by (try dsimp only); omega) (by (try dsimp only); omega) (by (try dsimp only); omega) (by (try dsimp only); omega) (by (try dsimp only); omega) (by (try dsimp only); omega) (by (try dsimp only); omega) (by (try dsimp only); omega) (by (try dsimp only); omega) (by (try dsimp only); omega) (by (try dsimp only); omega) (by (try dsimp only); omega) (by (try dsimp only); omega) (by (try dsimp only); omega) (by (try dsimp only); omega) (by (try dsimp only); omega) | exact keepA18 ‹_› _ (by (try dsimp only); omega) (by (try dsimp only); omega) (by (try dsimp only); omega) (by (try dsimp only); omega) (by (try dsimp only); omega) (by (try dsimp only); omega) (by (try dsimp only); omega) (by (try dsimp only); omega) (by (try dsimp only); omega) (by (try dsimp only); omega) (by (try dsimp only); omega) (by (try dsimp only); omega) (by (try dsimp only); omega) (by (try dsimp only); omega) (by (try dsimp only); omega) (by (try dsimp only); omega) (by (try dsimp only); omega) (by (try dsimp only); omega) | exact keepS18 (keepS18 ‹_› _ _ (by (try dsimp only); omega) (by (try dsimp only); omega) (by (try dsimp only); omega) (by (try dsimp only); omega) (by (try dsimp only); omega) (by (try dsimp only); omega) (by (try dsimp only); omega) (by (try dsimp only); omega) (by (try dsimp only); omega) (by (try dsimp only); omega) (by (try dsimp only); omega) (by (try dsimp only); omega) (by (try dsimp only); omega) (by (try dsimp only); omega) (by (try dsimp only); omega) (by (try dsimp only); omega) (by (try dsimp only); omega) (by (try dsimp only); omega) (by (try dsimp only); omega)) _ _ (by (try dsimp only); omega) (by (try dsimp only); omega) (by (try dsimp only); omega) (by (try dsimp only); omega) (by (try dsimp only); omega) (by (try dsimp only); omega) (by (try dsimp only); omega) (by (try dsimp only); omega) (by (try dsimp only); omega) (by (try dsimp only); omega) (by (try dsimp only); omega) (by (try dsimp only); omega) (by (try dsimp only); omega) (by (try dsimp only); omega) (by (try dsimp only); omega) (by (try dsimp only); omega) (by (try dsimp only); omega) (by (try dsimp only); omega) (by (try dsimp only); omega))) ((first | (go_at_call 21; with_reducible refine (D1.out _).mono ?_; rintro e w' ⟨rfl, hb⟩) | (go_at_call 21; with_reducible refine (D2.out _).mono ?_; rintro e w' ⟨rfl, hb⟩)))
              have hF := belK18 ‹_ ∧ _ ∧ _ ∧ _ ∧ _ ∧ _ ∧ _ ∧ _ ∧ _ ∧ _ ∧ _ ∧ _ ∧ _ ∧ _ ∧ _ ∧ _ ∧ _ ∧ _ ∧ Below w4.heap.size w4 _›
              refine any_gen (fun z => Below w4.heap.size w4 z) hF ?_
              clear hF
              rintro w9 hF
              have hz9 := hF.size
              go_wp2
              go_loopw [14] (fun s14 wy => ∃ k : Nat, s14 = .int .i64 k ∧ k ≤ 3 ∧ Below w4.heap.size w4 wy) (fun s14 _ => 3 - (intOf s14).toNat)
              case atStart => exact ⟨0, rfl, Nat.zero_le _, hF⟩
              case round =>
                obtain ⟨k, rfl, hk, hby⟩ := hrel
                obtain ⟨wk, hwk⟩ : ∃ wk : World, wk = wr := ⟨_, rfl⟩
                subst hwk
                have hz5 := hby.size
                have o0 := (hby.cell (p := ⟨wi.heap.size, 0, none⟩) (by (try dsimp only); omega)).trans a0
                have o1 := (hby.cell (p := ⟨wi.heap.size, 1, none⟩) (by (try dsimp only); omega)).trans a1
                have o2 := (hby.cell (p := ⟨wi.heap.size, 2, none⟩) (by (try dsimp only); omega)).trans a2
                have o3 := (hby.cell (p := ⟨wi.heap.size, 3, none⟩) (by (try dsimp only); omega)).trans a3
                have o4 := (hby.cell (p := ⟨wi.heap.size, 4, none⟩) (by (try dsimp only); omega)).trans a4
                have o5 := (hby.cell (p := ⟨wi.heap.size, 5, none⟩) (by (try dsimp only); omega)).trans a5
                have o6 := (hby.cell (p := ⟨wi.heap.size, 6, none⟩) (by (try dsimp only); omega)).trans a6
                have o7 := (hby.cell (p := ⟨wi.heap.size, 7, none⟩) (by (try dsimp only); omega)).trans a7
                have o8 := (hby.cell (p := ⟨wi.heap.size, 8, none⟩) (by (try dsimp only); omega)).trans a8
                have u0 := (hby.cell (p := ⟨wi.heap.size + 1, 0, none⟩) (by (try dsimp only); omega)).trans a9
                have u1 := (hby.cell (p := ⟨wi.heap.size + 1, 1, none⟩) (by (try dsimp only); omega)).trans a10
                have u2 := (hby.cell (p := ⟨wi.heap.size + 1, 2, none⟩) (by (try dsimp only); omega)).trans a11
                have u3 := (hby.cell (p := ⟨wi.heap.size + 1, 3, none⟩) (by (try dsimp only); omega)).trans a12
                have u4 := (hby.cell (p := ⟨wi.heap.size + 1, 4, none⟩) (by (try dsimp only); omega)).trans a13
                have u5 := (hby.cell (p := ⟨wi.heap.size + 1, 5, none⟩) (by (try dsimp only); omega)).trans a14
                have u6 := (hby.cell (p := ⟨wi.heap.size + 1, 6, none⟩) (by (try dsimp only); omega)).trans a15
                have u7 := (hby.cell (p := ⟨wi.heap.size + 1, 7, none⟩) (by (try dsimp only); omega)).trans a16
                have u8 := (hby.cell (p := ⟨wi.heap.size + 1, 8, none⟩) (by (try dsimp only); omega)).trans a17
                have v3 := (hby.cell (by (try dsimp only); omega)).trans y3
                have v4 := (hby.cell (by (try dsimp only); omega)).trans y4
                obtain rfl | rfl | rfl | rfl : k = 0 ∨ k = 1 ∨ k = 2 ∨ k = 3 := by omega
                · have AD := Lib.hid (fun w => r4add_any x0 z0 bx bz w (by omega) (by omega) (by omega) (by omega))
                  have NE := fun w => (show (binOp .neq 44 (P2 (x0 + bx) (z0 + bz)) (P2 (x0 + bx) (z0 + bz))).run Tryd.prog w = .ok (.bool false) w from ne_pt7 _ _ _ _ true (decide_eq_true rfl) w)
                  go_upto_region 25 with fail
                  go_region_held3 (fun w' => w'.cell? ⟨wi.heap.size, 0, none⟩ = some (.int .i64 (x0)) ∧ w'.cell? ⟨wi.heap.size, 1, none⟩ = some (.int .i64 (z0)) ∧ w'.cell? ⟨wi.heap.size + 1, 0, none⟩ = some (.int .i64 (x0 + bx)) ∧ w'.cell? ⟨wi.heap.size + 1, 1, none⟩ = some (.int .i64 (z0 + bz)) ∧ w'.cell? ⟨w.heap.size + 1, 0, none⟩ = some (.int .i64 bx) ∧ w'.cell? ⟨w.heap.size + 1, 1, none⟩ = some (.int .i64 bz) ∧ Below wk.heap.size wk w') ((first | assumption | exact ⟨by simp [*], by simp [*], by simp [*], by simp [*], by simp [*], by simp [*], (Below.refl _ _).drew⟩ | exact keep6 ‹_› hb (by (try dsimp only); omega) (by (try dsimp only); omega) (by (try dsimp only); omega) (by (try dsimp only); omega) (by (try dsimp only); omega) (by (try dsimp only); omega) | exact keepA6 ‹_› _ (by (try dsimp only); omega) (by (try dsimp only); omega) (by (try dsimp only); omega) (by (try dsimp only); omega) (by (try dsimp only); omega) (by (try dsimp only); omega) | exact keepS6 (keepS6 ‹_› _ _ (by (try dsimp only); omega) (by (try dsimp only); omega) (by (try dsimp only); omega) (by (try dsimp only); omega) (by (try dsimp only); omega) (by (try dsimp only); omega) (by (try dsimp only); omega)) _ _ (by (try dsimp only); omega) (by (try dsimp only); omega) (by (try dsimp only); omega) (by (try dsimp only); omega) (by (try dsimp only); omega) (by (try dsimp only); omega) (by (try dsimp only); omega))) ((first | (go_at_call 30; with_reducible refine (AD.out _).mono ?_; rintro e w' ⟨rfl, hb⟩)))
                  have hG := belK6 ‹_ ∧ _ ∧ _ ∧ _ ∧ _ ∧ _ ∧ Below wk.heap.size wk _›
                  go_wp2
                  go_roundw
                  case rel => exact ⟨1, rfl, by omega, hby.trans (hG.mono hby.size)⟩
                  case measure => simp [intOf]
                · have AD := Lib.hid (fun w => r4add_any x1 z1 bx bz w (by omega) (by omega) (by omega) (by omega))
                  have NE := fun w => (show (binOp .neq 44 (P2 (x1 + bx) (z1 + bz)) (P2 (x1 + bx) (z1 + bz))).run Tryd.prog w = .ok (.bool false) w from ne_pt7 _ _ _ _ true (decide_eq_true rfl) w)
                  go_upto_region 25 with fail
                  go_region_held3 (fun w' => w'.cell? ⟨wi.heap.size, 2, none⟩ = some (.int .i64 (x1)) ∧ w'.cell? ⟨wi.heap.size, 3, none⟩ = some (.int .i64 (z1)) ∧ w'.cell? ⟨wi.heap.size + 1, 2, none⟩ = some (.int .i64 (x1 + bx)) ∧ w'.cell? ⟨wi.heap.size + 1, 3, none⟩ = some (.int .i64 (z1 + bz)) ∧ w'.cell? ⟨w.heap.size + 1, 0, none⟩ = some (.int .i64 bx) ∧ w'.cell? ⟨w.heap.size + 1, 1, none⟩ = some (.int .i64 bz) ∧ Below wk.heap.size wk w') ((first | assumption | exact ⟨by simp [*], by simp [*], by simp [*], by simp [*], by simp [*], by simp [*], (Below.refl _ _).drew⟩ | exact keep6 ‹_› hb (by (try dsimp only); omega) (by (try dsimp only); omega) (by (try dsimp only); omega) (by (try dsimp only); omega) (by (try dsimp only); omega) (by (try dsimp only); omega) | exact keepA6 ‹_› _ (by (try dsimp only); omega) (by (try dsimp only); omega) (by (try dsimp only); omega) (by (try dsimp only); omega) (by (try dsimp only); omega) (by (try dsimp only); omega) | exact keepS6 (keepS6 ‹_› _ _ (by (try dsimp only); omega) (by (try dsimp only); omega) (by (try dsimp only); omega) (by (try dsimp only); omega) (by (try dsimp only); omega) (by (try dsimp only); omega) (by (try dsimp only); omega)) _ _ (by (try dsimp only); omega) (by (try dsimp only); omega) (by (try dsimp only); omega) (by (try dsimp only); omega) (by (try dsimp only); omega) (by (try dsimp only); omega) (by (try dsimp only); omega))) ((first | (go_at_call 30; with_reducible refine (AD.out _).mono ?_; rintro e w' ⟨rfl, hb⟩)))
                  have hG := belK6 ‹_ ∧ _ ∧ _ ∧ _ ∧ _ ∧ _ ∧ Below wk.heap.size wk _›
                  go_wp2
                  go_roundw
                  case rel => exact ⟨2, rfl, by omega, hby.trans (hG.mono hby.size)⟩
                  case measure => simp [intOf]
                · have AD := Lib.hid (fun w => r4add_any x2 z2 bx bz w (by omega) (by omega) (by omega) (by omega))
                  have NE := fun w => (show (binOp .neq 44 (P2 (x2 + bx) (z2 + bz)) (P2 (x2 + bx) (z2 + bz))).run Tryd.prog w = .ok (.bool false) w from ne_pt7 _ _ _ _ true (decide_eq_true rfl) w)
                  go_upto_region 25 with fail
                  go_region_held3 (fun w' => w'.cell? ⟨wi.heap.size, 4, none⟩ = some (.int .i64 (x2)) ∧ w'.cell? ⟨wi.heap.size, 5, none⟩ = some (.int .i64 (z2)) ∧ w'.cell? ⟨wi.heap.size + 1, 4, none⟩ = some (.int .i64 (x2 + bx)) ∧ w'.cell? ⟨wi.heap.size + 1, 5, none⟩ = some (.int .i64 (z2 + bz)) ∧ w'.cell? ⟨w.heap.size + 1, 0, none⟩ = some (.int .i64 bx) ∧ w'.cell? ⟨w.heap.size + 1, 1, none⟩ = some (.int .i64 bz) ∧ Below wk.heap.size wk w') ((first | assumption | exact ⟨by simp [*], by simp [*], by simp [*], by simp [*], by simp [*], by simp [*], (Below.refl _ _).drew⟩ | exact keep6 ‹_› hb (by (try dsimp only); omega) (by (try dsimp only); omega) (by (try dsimp only); omega) (by (try dsimp only); omega) (by (try dsimp only); omega) (by (try dsimp only); omega) | exact keepA6 ‹_› _ (by (try dsimp only); omega) (by (try dsimp only); omega) (by (try dsimp only); omega) (by (try dsimp only); omega) (by (try dsimp only); omega) (by (try dsimp only); omega) | exact keepS6 (keepS6 ‹_› _ _ (by (try dsimp only); omega) (by (try dsimp only); omega) (by (try dsimp only); omega) (by (try dsimp only); omega) (by (try dsimp only); omega) (by (try dsimp only); omega) (by (try dsimp only); omega)) _ _ (by (try dsimp only); omega) (by (try dsimp only); omega) (by (try dsimp only); omega) (by (try dsimp only); omega) (by (try dsimp only); omega) (by (try dsimp only); omega) (by (try dsimp only); omega))) ((first | (go_at_call 30; with_reducible refine (AD.out _).mono ?_; rintro e w' ⟨rfl, hb⟩)))
                  have hG := belK6 ‹_ ∧ _ ∧ _ ∧ _ ∧ _ ∧ _ ∧ Below wk.heap.size wk _›
                  go_wp2
                  go_roundw
                  case rel => exact ⟨3, rfl, by omega, hby.trans (hG.mono hby.size)⟩
                  case measure => simp [intOf]
                · have hbE := hbx.trans ((hb4.trans (hby.mono hb4.size)).mono hs2)
                  go_wp2
                  go_roundw
                  case rel => exact ⟨j + 1, by go_num, by omega, hbE⟩
                  case measure => simp [intOf]; omega
            · rw [hg2] at hdot r0 r1 r2 r3 r4 r5 r6 r7 r8
              rw [hg] at i3 i4 hdot t0 t1 t2 t3 t4 t5 t6 t7 t8
              obtain ⟨n0a, n0b⟩ := far_no i3
              obtain ⟨n1a, n1b⟩ := far_no (i4 (x1, z1) (by simp [segPs]))
              obtain ⟨n2a, n2b⟩ := far_no (i4 (x2, z2) (by simp [segPs]))
              obtain ⟨n3a, n3b⟩ := far_no (i4 (x3, z3) (by simp [segPs]))
              clear hg hg2 i1 i2 i3 i4 hv hv2
              simp only [shP, zP] at t0 t1 t2 t3 t4 t5 t6 t7 t8 r0 r1 r2 r3 r4 r5 r6 r7 r8 hdot n0a n0b n1a n1b n2a n2b n3a n3b
              have DT1 := fun w => q7dot_any (x0) (z0) (x1) (z1) (x2) (z2) (x3) (z3) (4) w
              have DT2 := fun w => q7dot_any (x0 + bx) (z0 + bz) (x1 + bx) (z1 + bz) (x2 + bx) (z2 + bz) (x3 + bx) (z3 + bz) (4) w
              simp only [hdot] at DT2
              obtain ⟨dv, hdv⟩ : ∃ d, dotV ((((x0, z0), (x1, z1), (x2, z2), (x3, z3))), 4) = d := ⟨_, rfl⟩
              simp only [hdv] at DT1 DT2
              have D1 := Lib.hid DT1
              have D2 := Lib.hid DT2
              clear DT1 DT2 hdv hdot
              have hBh2 : (ah.add (j * 9)).block < w8.heap.size := by rw [block_add]; exact hBh
              have g3a := fun o => (World.cell?_alloc_old wi o ⟨(ad2.add (i * 4)).block, (ad2.add (i * 4)).off + 2, none⟩ (by (try dsimp only); omega)).trans g3
              have r0a := fun o => (World.cell?_alloc_old wi o (ah.add (j * 9)) (by (try dsimp only); omega)).trans r0
              have r1a := fun o => (World.cell?_alloc_old wi o ⟨(ah.add (j * 9)).block, (ah.add (j * 9)).off + 1, none⟩ (by (try dsimp only); omega)).trans r1
              have r2a := fun o => (World.cell?_alloc_old wi o ⟨(ah.add (j * 9)).block, (ah.add (j * 9)).off + 2, none⟩ (by (try dsimp only); omega)).trans r2
              have r3a := fun o => (World.cell?_alloc_old wi o ⟨(ah.add (j * 9)).block, (ah.add (j * 9)).off + 3, none⟩ (by (try dsimp only); omega)).trans r3
              have r4a := fun o => (World.cell?_alloc_old wi o ⟨(ah.add (j * 9)).block, (ah.add (j * 9)).off + 4, none⟩ (by (try dsimp only); omega)).trans r4
              have r5a := fun o => (World.cell?_alloc_old wi o ⟨(ah.add (j * 9)).block, (ah.add (j * 9)).off + 5, none⟩ (by (try dsimp only); omega)).trans r5
              have r6a := fun o => (World.cell?_alloc_old wi o ⟨(ah.add (j * 9)).block, (ah.add (j * 9)).off + 6, none⟩ (by (try dsimp only); omega)).trans r6
              have r7a := fun o => (World.cell?_alloc_old wi o ⟨(ah.add (j * 9)).block, (ah.add (j * 9)).off + 7, none⟩ (by (try dsimp only); omega)).trans r7
              have r8a := fun o => (World.cell?_alloc_old wi o ⟨(ah.add (j * 9)).block, (ah.add (j * 9)).off + 8, none⟩ (by (try dsimp only); omega)).trans r8
              have q1 : ((4 : Int) != 4) = false := by decide
              have q2 : (dv != dv) = false := by simp
              go_upto_region 20 with fail
              refine any_gen (fun z => (z.cell? ⟨wi.heap.size, 0, none⟩ = some (.int .i64 (x0)) ∧ z.cell? ⟨wi.heap.size, 1, none⟩ = some (.int .i64 (z0)) ∧ z.cell? ⟨wi.heap.size, 2, none⟩ = some (.int .i64 (x1)) ∧ z.cell? ⟨wi.heap.size, 3, none⟩ = some (.int .i64 (z1)) ∧ z.cell? ⟨wi.heap.size, 4, none⟩ = some (.int .i64 (x2)) ∧ z.cell? ⟨wi.heap.size, 5, none⟩ = some (.int .i64 (z2)) ∧ z.cell? ⟨wi.heap.size, 6, none⟩ = some (.int .i64 (x3)) ∧ z.cell? ⟨wi.heap.size, 7, none⟩ = some (.int .i64 (z3)) ∧ z.cell? ⟨wi.heap.size, 8, none⟩ = some (.int .i64 (4)) ∧ z.cell? ⟨wi.heap.size + 1, 0, none⟩ = some (.int .i64 (x0 + bx)) ∧ z.cell? ⟨wi.heap.size + 1, 1, none⟩ = some (.int .i64 (z0 + bz)) ∧ z.cell? ⟨wi.heap.size + 1, 2, none⟩ = some (.int .i64 (x1 + bx)) ∧ z.cell? ⟨wi.heap.size + 1, 3, none⟩ = some (.int .i64 (z1 + bz)) ∧ z.cell? ⟨wi.heap.size + 1, 4, none⟩ = some (.int .i64 (x2 + bx)) ∧ z.cell? ⟨wi.heap.size + 1, 5, none⟩ = some (.int .i64 (z2 + bz)) ∧ z.cell? ⟨wi.heap.size + 1, 6, none⟩ = some (.int .i64 (x3 + bx)) ∧ z.cell? ⟨wi.heap.size + 1, 7, none⟩ = some (.int .i64 (z3 + bz)) ∧ z.cell? ⟨wi.heap.size + 1, 8, none⟩ = some (.int .i64 (4))) ∧ (z.cell? ⟨w.heap.size + 1, 0, none⟩ = some (.int .i64 bx) ∧ z.cell? ⟨w.heap.size + 1, 1, none⟩ = some (.int .i64 bz)) ∧ wi.heap.size + 1 + 1 ≤ z.heap.size ∧ Below wi.heap.size wi z) ⟨⟨by simp [go_sem], by simp [go_sem], by simp [go_sem], by simp [go_sem], by simp [go_sem], by simp [go_sem], by simp [go_sem], by simp [go_sem], by simp [go_sem], by simp [go_sem], by simp [go_sem], by simp [go_sem], by simp [go_sem], by simp [go_sem], by simp [go_sem], by simp [go_sem], by simp [go_sem], by simp [go_sem]⟩, ⟨(World.cell?_alloc_old _ _ _ (by simp; omega)).trans ((World.cell?_alloc_old _ _ _ (by (try dsimp only); omega)).trans y3), (World.cell?_alloc_old _ _ _ (by simp; omega)).trans ((World.cell?_alloc_old _ _ _ (by (try dsimp only); omega)).trans y4)⟩, by simp, ((Below.refl _ _).alloc (Nat.le_refl _) _).alloc (by simp) _⟩ ?_
              clear t0 t1 t2 t3 t4 t5 t6 t7 t8 r0 r1 r2 r3 r4 r5 r6 r7 r8 y3 y4 g2 g3 g3a r0a r1a r2a r3a r4a r5a r6a r7a r8a
              rintro w4 ⟨⟨a0, a1, a2, a3, a4, a5, a6, a7, a8, a9, a10, a11, a12, a13, a14, a15, a16, a17⟩, ⟨y3, y4⟩, hz4, hb4⟩
              go_region_held3 (fun w' => w'.cell? ⟨wi.heap.size, 0, none⟩ = some (.int .i64 (x0)) ∧ w'.cell? ⟨wi.heap.size, 1, none⟩ = some (.int .i64 (z0)) ∧ w'.cell? ⟨wi.heap.size, 2, none⟩ = some (.int .i64 (x1)) ∧ w'.cell? ⟨wi.heap.size, 3, none⟩ = some (.int .i64 (z1)) ∧ w'.cell? ⟨wi.heap.size, 4, none⟩ = some (.int .i64 (x2)) ∧ w'.cell? ⟨wi.heap.size, 5, none⟩ = some (.int .i64 (z2)) ∧ w'.cell? ⟨wi.heap.size, 6, none⟩ = some (.int .i64 (x3)) ∧ w'.cell? ⟨wi.heap.size, 7, none⟩ = some (.int .i64 (z3)) ∧ w'.cell? ⟨wi.heap.size, 8, none⟩ = some (.int .i64 (4)) ∧ w'.cell? ⟨wi.heap.size + 1, 0, none⟩ = some (.int .i64 (x0 + bx)) ∧ w'.cell? ⟨wi.heap.size + 1, 1, none⟩ = some (.int .i64 (z0 + bz)) ∧ w'.cell? ⟨wi.heap.size + 1, 2, none⟩ = some (.int .i64 (x1 + bx)) ∧ w'.cell? ⟨wi.heap.size + 1, 3, none⟩ = some (.int .i64 (z1 + bz)) ∧ w'.cell? ⟨wi.heap.size + 1, 4, none⟩ = some (.int .i64 (x2 + bx)) ∧ w'.cell? ⟨wi.heap.size + 1, 5, none⟩ = some (.int .i64 (z2 + bz)) ∧ w'.cell? ⟨wi.heap.size + 1, 6, none⟩ = some (.int .i64 (x3 + bx)) ∧ w'.cell? ⟨wi.heap.size + 1, 7, none⟩ = some (.int .i64 (z3 + bz)) ∧ w'.cell? ⟨wi.heap.size + 1, 8, none⟩ = some (.int .i64 (4)) ∧ Below w4.heap.size w4 w') ((first | assumption | exact ⟨by simp [*], by simp [*], by simp [*], by simp [*], by simp [*], by simp [*], by simp [*], by simp [*], by simp [*], by simp [*], by simp [*], by simp [*], by simp [*], by simp [*], by simp [*], by simp [*], by simp [*], by simp [*], (Below.refl _ _).drew⟩ | exact keep18 ‹_› hb (by (try dsimp only); omega) (by (try dsimp only); omega) (by (try dsimp only); omega) (by (try dsimp only); omega) (by (try dsimp only); omega) (by (try dsimp only); omega) (by (try dsimp only); omega) (by (try dsimp only); omega) (by (try dsimp only); omega) (by (try dsimp only); omega) (by (try dsimp only); omega) (by (try dsimp only); omega) (by (try dsimp only); omega) (by (try dsimp only); omega) (by (try dsimp only); omega) (by (try dsimp only); omega) (by (try dsimp only); omega) (by (try dsimp only); omega) | exact keepA18 ‹_› _ (by (try dsimp only); omega) (by (try dsimp only); omega) (by (try dsimp only); omega) (by (try dsimp only); omega) (by (try dsimp only); omega) (by (try dsimp only); omega) (by (try dsimp only); omega) (by (try dsimp only); omega) (by (try dsimp only); omega) (by (try dsimp only); omega) (by (try dsimp only); omega) (by (try dsimp only); omega) (by (try dsimp only); omega) (by (try dsimp only); omega) (by (try dsimp only); omega) (by (try dsimp only); omega) (by (try dsimp only); omega) (by (try dsimp only); omega) | exact keepS18 (keepS18 ‹_› _ _ (by (try dsimp only); omega) (by (try dsimp only); omega) (by (try dsimp only); omega) (by (try dsimp only); omega) (by (try dsimp only); omega) (by (try dsimp only); omega) (by (try dsimp only); omega) (by (try dsimp only); omega) (by (try dsimp only); omega) (by (try dsimp only); omega) (by (try dsimp only); omega) (by (try dsimp only); omega) (by (try dsimp only); omega) (by (try dsimp only); omega) (by (try dsimp only); omega) (by (try dsimp only); omega) (by (try dsimp only); omega) (by (try dsimp only); omega) (by (try dsimp only); omega)) _ _ (by (try dsimp only); omega) (by (try dsimp only); omega) (by (try dsimp only); omega) (by (try dsimp only); omega) (by (try dsimp only); omega) (by (try dsimp only); omega) (by (try dsimp only); omega) (by (try dsimp only); omega) (by (try dsimp only); omega) (by (try dsimp only); omega) (by (try dsimp only); omega) (by (try dsimp only); omega) (by (try dsimp only); omega) (by (try dsimp only); omega) (by (try dsimp only); omega) (by (try dsimp only); omega) (by (try dsimp only); omega) (by (try dsimp only); omega) (by (try dsimp only); omega))) ((first | (go_at_call 21; with_reducible refine (D1.out _).mono ?_; rintro e w' ⟨rfl, hb⟩) | (go_at_call 21; with_reducible refine (D2.out _).mono ?_; rintro e w' ⟨rfl, hb⟩)))
              have hF := belK18 ‹_ ∧ _ ∧ _ ∧ _ ∧ _ ∧ _ ∧ _ ∧ _ ∧ _ ∧ _ ∧ _ ∧ _ ∧ _ ∧ _ ∧ _ ∧ _ ∧ _ ∧ _ ∧ Below w4.heap.size w4 _›
              refine any_gen (fun z => Below w4.heap.size w4 z) hF ?_
              clear hF
              rintro w9 hF
              have hz9 := hF.size
              go_wp2
              go_loopw [14] (fun s14 wy => ∃ k : Nat, s14 = .int .i64 k ∧ k ≤ 4 ∧ Below w4.heap.size w4 wy) (fun s14 _ => 4 - (intOf s14).toNat)
              case atStart => exact ⟨0, rfl, Nat.zero_le _, hF⟩
              case round =>
                obtain ⟨k, rfl, hk, hby⟩ := hrel
                obtain ⟨wk, hwk⟩ : ∃ wk : World, wk = wr := ⟨_, rfl⟩
                subst hwk
                have hz5 := hby.size
                have o0 := (hby.cell (p := ⟨wi.heap.size, 0, none⟩) (by (try dsimp only); omega)).trans a0
                have o1 := (hby.cell (p := ⟨wi.heap.size, 1, none⟩) (by (try dsimp only); omega)).trans a1
                have o2 := (hby.cell (p := ⟨wi.heap.size, 2, none⟩) (by (try dsimp only); omega)).trans a2
                have o3 := (hby.cell (p := ⟨wi.heap.size, 3, none⟩) (by (try dsimp only); omega)).trans a3
                have o4 := (hby.cell (p := ⟨wi.heap.size, 4, none⟩) (by (try dsimp only); omega)).trans a4
                have o5 := (hby.cell (p := ⟨wi.heap.size, 5, none⟩) (by (try dsimp only); omega)).trans a5
                have o6 := (hby.cell (p := ⟨wi.heap.size, 6, none⟩) (by (try dsimp only); omega)).trans a6
                have o7 := (hby.cell (p := ⟨wi.heap.size, 7, none⟩) (by (try dsimp only); omega)).trans a7
                have o8 := (hby.cell (p := ⟨wi.heap.size, 8, none⟩) (by (try dsimp only); omega)).trans a8
                have u0 := (hby.cell (p := ⟨wi.heap.size + 1, 0, none⟩) (by (try dsimp only); omega)).trans a9
                have u1 := (hby.cell (p := ⟨wi.heap.size + 1, 1, none⟩) (by (try dsimp only); omega)).trans a10
                have u2 := (hby.cell (p := ⟨wi.heap.size + 1, 2, none⟩) (by (try dsimp only); omega)).trans a11
                have u3 := (hby.cell (p := ⟨wi.heap.size + 1, 3, none⟩) (by (try dsimp only); omega)).trans a12
                have u4 := (hby.cell (p := ⟨wi.heap.size + 1, 4, none⟩) (by (try dsimp only); omega)).trans a13
                have u5 := (hby.cell (p := ⟨wi.heap.size + 1, 5, none⟩) (by (try dsimp only); omega)).trans a14
                have u6 := (hby.cell (p := ⟨wi.heap.size + 1, 6, none⟩) (by (try dsimp only); omega)).trans a15
                have u7 := (hby.cell (p := ⟨wi.heap.size + 1, 7, none⟩) (by (try dsimp only); omega)).trans a16
                have u8 := (hby.cell (p := ⟨wi.heap.size + 1, 8, none⟩) (by (try dsimp only); omega)).trans a17
                have v3 := (hby.cell (by (try dsimp only); omega)).trans y3
                have v4 := (hby.cell (by (try dsimp only); omega)).trans y4
                obtain rfl | rfl | rfl | rfl | rfl : k = 0 ∨ k = 1 ∨ k = 2 ∨ k = 3 ∨ k = 4 := by omega
                · have AD := Lib.hid (fun w => r4add_any x0 z0 bx bz w (by omega) (by omega) (by omega) (by omega))
                  have NE := fun w => (show (binOp .neq 44 (P2 (x0 + bx) (z0 + bz)) (P2 (x0 + bx) (z0 + bz))).run Tryd.prog w = .ok (.bool false) w from ne_pt7 _ _ _ _ true (decide_eq_true rfl) w)
                  go_upto_region 25 with fail
                  go_region_held3 (fun w' => w'.cell? ⟨wi.heap.size, 0, none⟩ = some (.int .i64 (x0)) ∧ w'.cell? ⟨wi.heap.size, 1, none⟩ = some (.int .i64 (z0)) ∧ w'.cell? ⟨wi.heap.size + 1, 0, none⟩ = some (.int .i64 (x0 + bx)) ∧ w'.cell? ⟨wi.heap.size + 1, 1, none⟩ = some (.int .i64 (z0 + bz)) ∧ w'.cell? ⟨w.heap.size + 1, 0, none⟩ = some (.int .i64 bx) ∧ w'.cell? ⟨w.heap.size + 1, 1, none⟩ = some (.int .i64 bz) ∧ Below wk.heap.size wk w') ((first | assumption | exact ⟨by simp [*], by simp [*], by simp [*], by simp [*], by simp [*], by simp [*], (Below.refl _ _).drew⟩ | exact keep6 ‹_› hb (by (try dsimp only); omega) (by (try dsimp only); omega) (by (try dsimp only); omega) (by (try dsimp only); omega) (by (try dsimp only); omega) (by (try dsimp only); omega) | exact keepA6 ‹_› _ (by (try dsimp only); omega) (by (try dsimp only); omega) (by (try dsimp only); omega) (by (try dsimp only); omega) (by (try dsimp only); omega) (by (try dsimp only); omega) | exact keepS6 (keepS6 ‹_› _ _ (by (try dsimp only); omega) (by (try dsimp only); omega) (by (try dsimp only); omega) (by (try dsimp only); omega) (by (try dsimp only); omega) (by (try dsimp only); omega) (by (try dsimp only); omega)) _ _ (by (try dsimp only); omega) (by (try dsimp only); omega) (by (try dsimp only); omega) (by (try dsimp only); omega) (by (try dsimp only); omega) (by (try dsimp only); omega) (by (try dsimp only); omega))) ((first | (go_at_call 30; with_reducible refine (AD.out _).mono ?_; rintro e w' ⟨rfl, hb⟩)))
                  have hG := belK6 ‹_ ∧ _ ∧ _ ∧ _ ∧ _ ∧ _ ∧ Below wk.heap.size wk _›
                  go_wp2
                  go_roundw
                  case rel => exact ⟨1, rfl, by omega, hby.trans (hG.mono hby.size)⟩
                  case measure => simp [intOf]
                · have AD := Lib.hid (fun w => r4add_any x1 z1 bx bz w (by omega) (by omega) (by omega) (by omega))
                  have NE := fun w => (show (binOp .neq 44 (P2 (x1 + bx) (z1 + bz)) (P2 (x1 + bx) (z1 + bz))).run Tryd.prog w = .ok (.bool false) w from ne_pt7 _ _ _ _ true (decide_eq_true rfl) w)
                  go_upto_region 25 with fail
                  go_region_held3 (fun w' => w'.cell? ⟨wi.heap.size, 2, none⟩ = some (.int .i64 (x1)) ∧ w'.cell? ⟨wi.heap.size, 3, none⟩ = some (.int .i64 (z1)) ∧ w'.cell? ⟨wi.heap.size + 1, 2, none⟩ = some (.int .i64 (x1 + bx)) ∧ w'.cell? ⟨wi.heap.size + 1, 3, none⟩ = some (.int .i64 (z1 + bz)) ∧ w'.cell? ⟨w.heap.size + 1, 0, none⟩ = some (.int .i64 bx) ∧ w'.cell? ⟨w.heap.size + 1, 1, none⟩ = some (.int .i64 bz) ∧ Below wk.heap.size wk w') ((first | assumption | exact ⟨by simp [*], by simp [*], by simp [*], by simp [*], by simp [*], by simp [*], (Below.refl _ _).drew⟩ | exact keep6 ‹_› hb (by (try dsimp only); omega) (by (try dsimp only); omega) (by (try dsimp only); omega) (by (try dsimp only); omega) (by (try dsimp only); omega) (by (try dsimp only); omega) | exact keepA6 ‹_› _ (by (try dsimp only); omega) (by (try dsimp only); omega) (by (try dsimp only); omega) (by (try dsimp only); omega) (by (try dsimp only); omega) (by (try dsimp only); omega) | exact keepS6 (keepS6 ‹_› _ _ (by (try dsimp only); omega) (by (try dsimp only); omega) (by (try dsimp only); omega) (by (try dsimp only); omega) (by (try dsimp only); omega) (by (try dsimp only); omega) (by (try dsimp only); omega)) _ _ (by (try dsimp only); omega) (by (try dsimp only); omega) (by (try dsimp only); omega) (by (try dsimp only); omega) (by (try dsimp only); omega) (by (try dsimp only); omega) (by (try dsimp only); omega))) ((first | (go_at_call 30; with_reducible refine (AD.out _).mono ?_; rintro e w' ⟨rfl, hb⟩)))
                  have hG := belK6 ‹_ ∧ _ ∧ _ ∧ _ ∧ _ ∧ _ ∧ Below wk.heap.size wk _›
                  go_wp2
                  go_roundw
                  case rel => exact ⟨2, rfl, by omega, hby.trans (hG.mono hby.size)⟩
                  case measure => simp [intOf]
                · have AD := Lib.hid (fun w => r4add_any x2 z2 bx bz w (by omega) (by omega) (by omega) (by omega))
                  have NE := fun w => (show (binOp .neq 44 (P2 (x2 + bx) (z2 + bz)) (P2 (x2 + bx) (z2 + bz))).run Tryd.prog w = .ok (.bool false) w from ne_pt7 _ _ _ _ true (decide_eq_true rfl) w)
                  go_upto_region 25 with fail
                  go_region_held3 (fun w' => w'.cell? ⟨wi.heap.size, 4, none⟩ = some (.int .i64 (x2)) ∧ w'.cell? ⟨wi.heap.size, 5, none⟩ = some (.int .i64 (z2)) ∧ w'.cell? ⟨wi.heap.size + 1, 4, none⟩ = some (.int .i64 (x2 + bx)) ∧ w'.cell? ⟨wi.heap.size + 1, 5, none⟩ = some (.int .i64 (z2 + bz)) ∧ w'.cell? ⟨w.heap.size + 1, 0, none⟩ = some (.int .i64 bx) ∧ w'.cell? ⟨w.heap.size + 1, 1, none⟩ = some (.int .i64 bz) ∧ Below wk.heap.size wk w') ((first | assumption | exact ⟨by simp [*], by simp [*], by simp [*], by simp [*], by simp [*], by simp [*], (Below.refl _ _).drew⟩ | exact keep6 ‹_› hb (by (try dsimp only); omega) (by (try dsimp only); omega) (by (try dsimp only); omega) (by (try dsimp only); omega) (by (try dsimp only); omega) (by (try dsimp only); omega) | exact keepA6 ‹_› _ (by (try dsimp only); omega) (by (try dsimp only); omega) (by (try dsimp only); omega) (by (try dsimp only); omega) (by (try dsimp only); omega) (by (try dsimp only); omega) | exact keepS6 (keepS6 ‹_› _ _ (by (try dsimp only); omega) (by (try dsimp only); omega) (by (try dsimp only); omega) (by (try dsimp only); omega) (by (try dsimp only); omega) (by (try dsimp only); omega) (by (try dsimp only); omega)) _ _ (by (try dsimp only); omega) (by (try dsimp only); omega) (by (try dsimp only); omega) (by (try dsimp only); omega) (by (try dsimp only); omega) (by (try dsimp only); omega) (by (try dsimp only); omega))) ((first | (go_at_call 30; with_reducible refine (AD.out _).mono ?_; rintro e w' ⟨rfl, hb⟩)))
                  have hG := belK6 ‹_ ∧ _ ∧ _ ∧ _ ∧ _ ∧ _ ∧ Below wk.heap.size wk _›
                  go_wp2
                  go_roundw
                  case rel => exact ⟨3, rfl, by omega, hby.trans (hG.mono hby.size)⟩
                  case measure => simp [intOf]
                · have AD := Lib.hid (fun w => r4add_any x3 z3 bx bz w (by omega) (by omega) (by omega) (by omega))
                  have NE := fun w => (show (binOp .neq 44 (P2 (x3 + bx) (z3 + bz)) (P2 (x3 + bx) (z3 + bz))).run Tryd.prog w = .ok (.bool false) w from ne_pt7 _ _ _ _ true (decide_eq_true rfl) w)
                  go_upto_region 25 with fail
                  go_region_held3 (fun w' => w'.cell? ⟨wi.heap.size, 6, none⟩ = some (.int .i64 (x3)) ∧ w'.cell? ⟨wi.heap.size, 7, none⟩ = some (.int .i64 (z3)) ∧ w'.cell? ⟨wi.heap.size + 1, 6, none⟩ = some (.int .i64 (x3 + bx)) ∧ w'.cell? ⟨wi.heap.size + 1, 7, none⟩ = some (.int .i64 (z3 + bz)) ∧ w'.cell? ⟨w.heap.size + 1, 0, none⟩ = some (.int .i64 bx) ∧ w'.cell? ⟨w.heap.size + 1, 1, none⟩ = some (.int .i64 bz) ∧ Below wk.heap.size wk w') ((first | assumption | exact ⟨by simp [*], by simp [*], by simp [*], by simp [*], by simp [*], by simp [*], (Below.refl _ _).drew⟩ | exact keep6 ‹_› hb (by (try dsimp only); omega) (by (try dsimp only); omega) (by (try dsimp only); omega) (by (try dsimp only); omega) (by (try dsimp only); omega) (by (try dsimp only); omega) | exact keepA6 ‹_› _ (by (try dsimp only); omega) (by (try dsimp only); omega) (by (try dsimp only); omega) (by (try dsimp only); omega) (by (try dsimp only); omega) (by (try dsimp only); omega) | exact keepS6 (keepS6 ‹_› _ _ (by (try dsimp only); omega) (by (try dsimp only); omega) (by (try dsimp only); omega) (by (try dsimp only); omega) (by (try dsimp only); omega) (by (try dsimp only); omega) (by (try dsimp only); omega)) _ _ (by (try dsimp only); omega) (by (try dsimp only); omega) (by (try dsimp only); omega) (by (try dsimp only); omega) (by (try dsimp only); omega) (by (try dsimp only); omega) (by (try dsimp only); omega))) ((first | (go_at_call 30; with_reducible refine (AD.out _).mono ?_; rintro e w' ⟨rfl, hb⟩)))
                  have hG := belK6 ‹_ ∧ _ ∧ _ ∧ _ ∧ _ ∧ _ ∧ Below wk.heap.size wk _›
                  go_wp2
                  go_roundw
                  case rel => exact ⟨4, rfl, by omega, hby.trans (hG.mono hby.size)⟩
                  case measure => simp [intOf]
                · have hbE := hbx.trans ((hb4.trans (hby.mono hb4.size)).mono hs2)
                  go_wp2
                  go_roundw
                  case rel => exact ⟨j + 1, by go_num, by omega, hbE⟩
                  case measure => simp [intOf]; omega
          · have hbE := hbp.trans (hbx.mono hbp.size)
            have p5 : decide ((j : Int) < (M : Int)) = false := by simp; omega
            have p6 : ¬ (j : Int) < (M : Int) := by omega
            go_wp2
            go_roundw
            case rel => exact ⟨i + 1, by go_num, by omega, hbE⟩
            case measure => simp [intOf]; omega
      · obtain rfl : i = N := by omega
        have p1 : decide ((i : Int) < (i : Int)) = false := by simp
        have hbx := hb.trans (hbr.mono hb.size)
        go_wp2
        go_ret
        exact ⟨rfl, hbx⟩
  · have q1 : ((72 : Int) == 0) = false := by decide
    have q2 : ((72 : Int) != 0) = true := by decide
    clear hT
    go_wp2
    go_ret
    exact ⟨rfl, hb⟩
theorem walk_PathShifts (A B : Option Addr) (cv cp : Nat) (vs : List Int) (ps : List Pnt) (bx bz : Int) (w : World) (hin : PathIn w A B cv cp vs ps) :
    Calls Tryd.prog 7 #[PathA A vs.length cv B ps.length cp, P2 bx bz] w fun e w' => e = .returned (.bool true) ∧ Below w.heap.size w w' := by
  cases hb : bnd7 vs.length ps.length
  · exact shifts7_far A B cv cp vs ps bx bz w hin hb
  · cases h2 : nearB bx bz
    · exact shifts7_far2 A B cv cp vs ps bx bz w hin hb h2
    · by_cases h0 : pathE vs ps = 0
      · exact shifts7_main A B cv cp vs ps bx bz w hin hb h2 h0
      · exact shifts7_none A B cv cp vs ps bx bz w hin hb h2 h0
end Go.Proofs.YtalgmnnimfenpaaDoor
