/- The walk of PathTells: whether any path may be, and its subpaths. -/
import Derived.Test.YtalgmnnimfenpaaDoorPin7
import Derived.Test.YtalgmnnimfenpaaDoorSplit7
import Derived.Test.YtalgmnnimfenpaaDoorCorn
namespace Go.Proofs.YtalgmnnimfenpaaDoor
open Go.RowKit
set_option linter.unusedVariables false
set_option linter.unusedSimpArgs false
set_option maxHeartbeats 4000000
set_option maxRecDepth 100000

theorem tells7_far (A B : Option Addr) (cv cp : Nat) (vs : List Int) (ps : List Pnt) (v : Int) (w : World) (hin : PathIn w A B cv cp vs ps) (h : bnd7 vs.length ps.length = false) :
    Calls Tryd.prog 3 #[PathA A vs.length cv B ps.length cp, .int .i64 v] w fun e w' => e = .returned (.bool true) ∧ Below w.heap.size w w' := by
  have HTB := Lib.hid (fun (x : World) (hb : Below w.heap.size w x) => hin.tb.step hb)
  obtain ⟨n, hn⟩ : ∃ n, vs.length = n := ⟨_, rfl⟩
  obtain ⟨m, hm⟩ : ∃ m, ps.length = m := ⟨_, rfl⟩
  rw [hn, hm] at h ⊢
  have HB := Lib.hid h
  clear h hn hm hin
  go_enter Tryd.func3, Tryd.ntmps3
  go_wp2_with fail
  refine (bounded7_any A B n cv m cp _).mono ?_
  rintro e w1 ⟨rfl, h1⟩
  rw [HB.out]
  have z1 := h1.size
  simp at z1
  have c1 : w1.cell? ⟨w.heap.size, 0, none⟩ = some (.slice A n cv) := (h1.cell (p := ⟨w.heap.size, 0, none⟩) (by simp)).trans (by simp)
  have c2 : w1.cell? ⟨w.heap.size, 1, none⟩ = some (.slice B m cp) := (h1.cell (p := ⟨w.heap.size, 1, none⟩) (by simp)).trans (by simp)
  have hb := ((Below.refl _ w).alloc (Nat.le_refl _) _).trans (h1.mono (by simp))
  clear h1
  go_wp2_with fail
  refine (shown7_any _ (HTB.out _ hb)).mono ?_
  rintro e w2 ⟨rfl, h2⟩
  go_wp2
  go_ret
  exact ⟨rfl, hb.trans (h2.mono hb.size)⟩
theorem tells7_main (A B : Option Addr) (cv cp : Nat) (vs : List Int) (ps : List Pnt) (v : Int) (w : World) (hin : PathIn w A B cv cp vs ps) (h : bnd7 vs.length ps.length = true) :
    Calls Tryd.prog 3 #[PathA A vs.length cv B ps.length cp, .int .i64 v] w fun e w' => e = .returned (.bool true) ∧ Below w.heap.size w w' := by
  have HTB := Lib.hid (fun (x : World) (hb : Below w.heap.size w x) => hin.tb.step hb)
  obtain ⟨b1, b2⟩ := bnd_ok h
  obtain ⟨n, hn⟩ : ∃ n, vs.length = n := ⟨_, rfl⟩
  obtain ⟨m, hm⟩ : ∃ m, ps.length = m := ⟨_, rfl⟩
  obtain ⟨k, hk⟩ : ∃ k, pathE vs ps = k := ⟨_, rfl⟩
  obtain ⟨F, hF⟩ : ∃ F, splitE vs ps = F := ⟨_, rfl⟩
  obtain ⟨N, hN⟩ : ∃ N, F.length = N := ⟨_, rfl⟩
  obtain ⟨t, ht⟩ : ∃ t, takesV v = t := ⟨_, rfl⟩
  have hLn : N ≤ n := by rw [← hN, ← hF, ← hn]; exact splitE_few vs ps
  have hsg : ∀ x ∈ F, x.2.1.length ≤ n := by rw [← hF, ← hn]; exact splitE_segs vs ps
  have SPL := Lib.hid (show ∀ w, PathIn w A B cv cp vs ps → Calls Tryd.prog 11 #[PathA A n cv B m cp] w fun e w' => ∃ A' c', e = .returned (.tuple #[.slice A' N c', .int .i64 k]) ∧ Subs w' w'.heap.size A' F ∧ Below w.heap.size w w' from fun w hi => by
    have := q7split_any A B cv cp vs ps w hi.tb hi.rv hi.rp (by omega) (by omega) hi.lv hi.lp hi.mp
    rw [hn, hm, hF, hk, hN] at this
    exact this)
  have RSP := Lib.hid (show ∀ w, PathIn w A B cv cp vs ps → Calls Tryd.prog 12 #[PathA A n cv B m cp] w fun e w' => ∃ A' c', e = .returned (.tuple #[.slice A' N c', .int .i64 k]) ∧ Subs w' w'.heap.size A' F ∧ Below w.heap.size w w' from fun w hi => by
    have := r7split_any A B cv cp vs ps w hi.rv hi.rp (by omega) (by omega) hi.lp hi.mp
    rw [hn, hm, hF, hk, hN] at this
    exact this)
  have CHK := Lib.hid (show ∀ w, PathIn w A B cv cp vs ps → Calls Tryd.prog 16 #[PathA A n cv B m cp] w fun e w' => e = .returned (.int .i64 k) ∧ Below w.heap.size w w' from fun w hi => by
    have := q7check_any A B cv cp vs ps w hi.tb hi.rv hi.rp (by omega) (by omega)
    rw [hn, hm, hk] at this
    exact this)
  have RCK := Lib.hid (show ∀ w, PathIn w A B cv cp vs ps → Calls Tryd.prog 17 #[PathA A n cv B m cp] w fun e w' => e = .returned (.int .i64 k) ∧ Below w.heap.size w w' from fun w hi => by
    have := r7check_any A B cv cp vs ps w hi.rv hi.rp (by omega) (by omega)
    rw [hn, hm, hk] at this
    exact this)
  have SBS := Lib.hid (show ∀ A c w, Subs w w.heap.size A F → Calls Tryd.prog 19 #[.slice A N c] w fun e w' => ∃ A' c', e = .returned (.slice A' N c') ∧ Subs w' w'.heap.size A' F ∧ Below w.heap.size w w' from fun A c w hs => by
    have := subs7_any A c F w hs (by rw [hN]; omega) (fun x hx => by have := hsg x hx; omega)
    rw [hN] at this
    exact this)
  have SAM := Lib.hid (show ∀ A A' c c' w, Subs w w.heap.size A F → Subs w w.heap.size A' F → Calls Tryd.prog 18 #[.slice A N c, .slice A' N c'] w fun e w' => e = .returned (.bool true) ∧ Below w.heap.size w w' from fun A A' c c' w hs hs' => by
    have := r7samesubs_any A A' c c' F F w hs hs' (by rw [hN]; omega) (fun x hx => by have := hsg x hx; omega)
    rw [hN, decide_eq_true (rfl : F = F)] at this
    exact this)
  have TK := Lib.hid (show ∀ w, Tab7 w → Calls Tryd.prog 14 #[.int .i64 v] w fun e w' => e = .returned (.int .i64 t) ∧ Below w.heap.size w w' from fun w hT => ht ▸ q7takes_any v w hT)
  have RTK := Lib.hid (show ∀ w, Calls Tryd.prog 15 #[.int .i64 v] w fun e w' => e = .returned (.int .i64 t) ∧ Below w.heap.size w w' from fun w => ht ▸ r7takes_any v w)
  have HIN := Lib.hid hin
  rw [hn, hm] at h ⊢
  have HB := Lib.hid h
  clear h hn hm hin hk hF hN ht hsg
  go_enter Tryd.func3, Tryd.ntmps3
  go_wp2_with fail
  refine (bounded7_any A B n cv m cp _).mono ?_
  rintro e w1 ⟨rfl, h1⟩
  rw [HB.out]
  have z1 := h1.size
  simp at z1
  have c1 : w1.cell? ⟨w.heap.size, 0, none⟩ = some (.slice A n cv) := (h1.cell (p := ⟨w.heap.size, 0, none⟩) (by simp)).trans (by simp)
  have c2 : w1.cell? ⟨w.heap.size, 1, none⟩ = some (.slice B m cp) := (h1.cell (p := ⟨w.heap.size, 1, none⟩) (by simp)).trans (by simp)
  have hb := ((Below.refl _ w).alloc (Nat.le_refl _) _).trans (h1.mono (by simp))
  clear h1
  go_wp2_with fail
  refine (shown7_any _ (HTB.out _ hb)).mono ?_
  rintro e w2 ⟨rfl, h2⟩
  replace c1 := (h2.cell (by dsimp only; omega)).trans c1
  replace c2 := (h2.cell (by dsimp only; omega)).trans c2
  replace hb := hb.trans (h2.mono hb.size)
  have z2 := h2.size
  clear h2
  go_wp2_with fail
  refine (SPL.out _ (HIN.out.calls hb)).mono ?_
  rintro e w3 ⟨A3, k3, rfl, hS, h3⟩
  replace c1 := (h3.cell (by dsimp only; omega)).trans c1
  replace c2 := (h3.cell (by dsimp only; omega)).trans c2
  replace hb := hb.trans (h3.mono hb.size)
  have z3 := h3.size
  have HS := Lib.hid hS
  clear h3 hS
  go_wp2_with fail
  refine (its7_any A B n cv m cp _).mono ?_
  rintro e w4 ⟨rfl, h4⟩
  replace c1 := (h4.cell (by dsimp only; omega)).trans c1
  replace c2 := (h4.cell (by dsimp only; omega)).trans c2
  replace hb := hb.trans (h4.mono hb.size)
  have z4 := h4.size
  have HS4 := Lib.hid (HS.out.calls h4)
  clear h4 HS
  go_wp2_with fail
  refine (RSP.out _ (HIN.out.calls hb)).mono ?_
  rintro e w5 ⟨A5, k5, rfl, hR, h5⟩
  replace c1 := (h5.cell (by dsimp only; omega)).trans c1
  replace c2 := (h5.cell (by dsimp only; omega)).trans c2
  replace hb := hb.trans (h5.mono hb.size)
  have z5 := h5.size
  have HS5 := Lib.hid (HS4.out.calls h5)
  have HR5 := Lib.hid hR
  have HIN5 := Lib.hid (HIN.out.calls hb)
  clear h5 HS4 hR
  have hb0 := hb
  clear hb
  have p1 : (t == t) = true := by simp
  have p2 : (k == k) = true := by simp
  go_upto_region 5 with fail
  go_region_held3 (fun w' => w'.cell? ⟨w.heap.size, 0, none⟩ = some (.slice A n cv) ∧ w'.cell? ⟨w.heap.size, 1, none⟩ = some (.slice B m cp) ∧ Below w5.heap.size w5 w') ((first | assumption | exact ⟨by simp [*], by simp [*], (Below.refl _ _).drew⟩ | exact keep2 ‹_› hb (by (try dsimp only); omega) (by (try dsimp only); omega) | exact keepA2 ‹_› _ (by (try dsimp only); omega) (by (try dsimp only); omega) | exact keepS2 (keepS2 ‹_› _ _ (by (try dsimp only); omega) (by (try dsimp only); omega) (by (try dsimp only); omega)) _ _ (by (try dsimp only); omega) (by (try dsimp only); omega) (by (try dsimp only); omega))) ((first | (go_at_call 14; with_reducible refine (TK.out _ (HIN5.out.calls (by exact belK2 (by assumption))).tb).mono ?_; rintro e w' ⟨rfl, hb⟩) | (go_at_call 15; with_reducible refine (RTK.out _).mono ?_; rintro e w' ⟨rfl, hb⟩) | (go_at_call 16; with_reducible refine (CHK.out _ (HIN5.out.calls (by exact belK2 (by assumption)))).mono ?_; rintro e w' ⟨rfl, hb⟩) | (go_at_call 13; with_reducible refine (its7_any A B n cv m cp _).mono ?_; rintro e w' ⟨rfl, hb⟩) | (go_at_call 17; with_reducible refine (RCK.out _ (HIN5.out.calls (by exact belK2 (by assumption)))).mono ?_; rintro e w' ⟨rfl, hb⟩) | (go_at_call 19; with_reducible refine (SBS.out _ _ _ (HS5.out.calls (by exact belK2 (by assumption)))).mono ?_; rintro e wS ⟨A8, k8, rfl, hs8, hb⟩; have hr8 := HR5.out.calls (belK2 (keep2 ‹_ ∧ _› hb (by (try dsimp only); omega) (by (try dsimp only); omega)))) | (go_at_call 18; with_reducible refine (SAM.out A8 A5 k8 k5 _ hs8 hr8).mono ?_; rintro e w' ⟨rfl, hb⟩)))
  all_goals
    have hF := belK2 ‹_ ∧ _ ∧ Below w5.heap.size w5 _›
    go_wp2
    go_ret
    exact ⟨rfl, hb0.trans (hF.mono hb0.size)⟩
theorem walk_PathTells (A B : Option Addr) (cv cp : Nat) (vs : List Int) (ps : List Pnt) (v : Int) (w : World) (hin : PathIn w A B cv cp vs ps) :
    Calls Tryd.prog 3 #[PathA A vs.length cv B ps.length cp, .int .i64 v] w fun e w' => e = .returned (.bool true) ∧ Below w.heap.size w w' := by
  cases hb : bnd7 vs.length ps.length
  · exact tells7_far A B cv cp vs ps v w hin hb
  · exact tells7_main A B cv cp vs ps v w hin hb
end Go.Proofs.YtalgmnnimfenpaaDoor
