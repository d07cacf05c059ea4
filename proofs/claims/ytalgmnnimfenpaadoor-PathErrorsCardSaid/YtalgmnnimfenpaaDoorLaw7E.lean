/- The walk of PathErrors: points too few, too many; verbs that are none, and one that begins no subpath. -/
import Derived.Test.YtalgmnnimfenpaaDoorApp12
import Derived.Test.YtalgmnnimfenpaaDoorChainNum
import Derived.Test.YtalgmnnimfenpaaDoorCorn
namespace Go.Proofs.YtalgmnnimfenpaaDoor
open Go.RowKit
set_option linter.unusedVariables false
set_option linter.unusedSimpArgs false
set_option maxHeartbeats 16000000
set_option maxRecDepth 100000

theorem errors7_far (A B : Option Addr) (cv cp : Nat) (vs : List Int) (ps : List Pnt) (v : Int) (w : World) (hin : PathIn w A B cv cp vs ps) (h : bnd7 vs.length ps.length = false) :
    Calls Tryd.prog 8 #[PathA A vs.length cv B ps.length cp, .int .i64 v] w fun e w' => e = .returned (.bool true) ∧ Below w.heap.size w w' := by
  have HTB := Lib.hid (fun (x : World) (hb : Below w.heap.size w x) => hin.tb.step hb)
  obtain ⟨n, hn⟩ : ∃ n, vs.length = n := ⟨_, rfl⟩
  obtain ⟨m, hm⟩ : ∃ m, ps.length = m := ⟨_, rfl⟩
  rw [hn, hm] at h ⊢
  have HB := Lib.hid h
  clear h hn hm hin
  go_enter Tryd.func8, Tryd.ntmps8
  go_wp2_with fail
  refine (bounded7_any A B n cv m cp _).mono ?_
  rintro e w1 ⟨rfl, h1⟩
  rw [HB.out]
  have z1 := h1.size
  simp at z1
  have c1 : w1.cell? ⟨w.heap.size, 0, none⟩ = some (.slice A n cv) := (h1.cell (p := ⟨w.heap.size, 0, none⟩) (by simp; (try omega))).trans (by simp)
  have c2 : w1.cell? ⟨w.heap.size, 1, none⟩ = some (.slice B m cp) := (h1.cell (p := ⟨w.heap.size, 1, none⟩) (by simp; (try omega))).trans (by simp)
  have hb : Below w.heap.size w w1 := ((Below.refl _ w).alloc (Nat.le_refl _) _).trans (h1.mono (by simp))
  clear h1
  go_wp2_with fail
  refine (shown7_any _ (HTB.out _ hb)).mono ?_
  rintro e w2 ⟨rfl, h2⟩
  go_wp2
  go_ret
  exact ⟨rfl, hb.trans (h2.mono hb.size)⟩
theorem errors7_long (A B : Option Addr) (cv cp : Nat) (vs : List Int) (ps : List Pnt) (v : Int) (w : World) (hin : PathIn w A B cv cp vs ps) (h : bnd7 vs.length ps.length = true) (h2 : 500 < vs.length) :
    Calls Tryd.prog 8 #[PathA A vs.length cv B ps.length cp, .int .i64 v] w fun e w' => e = .returned (.bool true) ∧ Below w.heap.size w w' := by
  have HTB := Lib.hid (fun (x : World) (hb : Below w.heap.size w x) => hin.tb.step hb)
  obtain ⟨n, hn⟩ : ∃ n, vs.length = n := ⟨_, rfl⟩
  obtain ⟨m, hm⟩ : ∃ m, ps.length = m := ⟨_, rfl⟩
  rw [hn] at h2
  rw [hn, hm] at h ⊢
  have q1 : decide ((n : Int) > 500) = true := by simp; omega
  have q2 : decide (500 < (n : Int)) = true := by simp; omega
  have q3 : decide (500 < n) = true := by simp; omega
  have HB := Lib.hid h
  clear h hn hm hin
  go_enter Tryd.func8, Tryd.ntmps8
  go_wp2_with fail
  refine (bounded7_any A B n cv m cp _).mono ?_
  rintro e w1 ⟨rfl, h1⟩
  rw [HB.out]
  have z1 := h1.size
  simp at z1
  have c1 : w1.cell? ⟨w.heap.size, 0, none⟩ = some (.slice A n cv) := (h1.cell (p := ⟨w.heap.size, 0, none⟩) (by simp; (try omega))).trans (by simp)
  have c2 : w1.cell? ⟨w.heap.size, 1, none⟩ = some (.slice B m cp) := (h1.cell (p := ⟨w.heap.size, 1, none⟩) (by simp; (try omega))).trans (by simp)
  have hb : Below w.heap.size w w1 := ((Below.refl _ w).alloc (Nat.le_refl _) _).trans (h1.mono (by simp))
  clear h1
  go_wp2_with fail
  refine (shown7_any _ (HTB.out _ hb)).mono ?_
  rintro e w2 ⟨rfl, h2⟩
  go_wp2
  go_ret
  exact ⟨rfl, hb.trans (h2.mono hb.size)⟩
theorem errors7_none (A B : Option Addr) (cv cp : Nat) (vs : List Int) (ps : List Pnt) (v : Int) (w : World) (hin : PathIn w A B cv cp vs ps) (h : bnd7 vs.length ps.length = true) (h2 : vs.length ≤ 500) (h0 : pathE vs ps ≠ 0) :
    Calls Tryd.prog 8 #[PathA A vs.length cv B ps.length cp, .int .i64 v] w fun e w' => e = .returned (.bool true) ∧ Below w.heap.size w w' := by
  have HTB := Lib.hid (fun (x : World) (hb : Below w.heap.size w x) => hin.tb.step hb)
  obtain ⟨b1, b2⟩ := bnd_ok h
  obtain ⟨n, hn⟩ : ∃ n, vs.length = n := ⟨_, rfl⟩
  obtain ⟨m, hm⟩ : ∃ m, ps.length = m := ⟨_, rfl⟩
  obtain ⟨k, hk⟩ : ∃ k, pathE vs ps = k := ⟨_, rfl⟩
  have CHK := Lib.hid (show ∀ w, PathIn w A B cv cp vs ps → Calls Tryd.prog 16 #[PathA A n cv B m cp] w fun e w' => e = .returned (.int .i64 k) ∧ Below w.heap.size w w' from fun w hi => by
    have := q7check_any A B cv cp vs ps w hi.tb hi.rv hi.rp (by omega) (by omega)
    rw [hn, hm, hk] at this
    exact this)
  rw [hn] at h2 b1
  rw [hm] at b2
  rw [hk] at h0
  have q4 : (k == 0) = false := by simpa using h0
  have q5 : (k != 0) = true := by simpa using h0
  have HIN := Lib.hid hin
  rw [hn, hm] at h ⊢
  have q1 : decide ((n : Int) > 500) = false := by simp; omega
  have q2 : decide (500 < (n : Int)) = false := by simp; omega
  have q3 : decide (500 < n) = false := by simp; omega
  have HB := Lib.hid h
  clear h hn hm hin hk h0
  go_enter Tryd.func8, Tryd.ntmps8
  go_wp2_with fail
  refine (bounded7_any A B n cv m cp _).mono ?_
  rintro e w1 ⟨rfl, h1⟩
  rw [HB.out]
  have z1 := h1.size
  simp at z1
  have c1 : w1.cell? ⟨w.heap.size, 0, none⟩ = some (.slice A n cv) := (h1.cell (p := ⟨w.heap.size, 0, none⟩) (by simp; (try omega))).trans (by simp)
  have c2 : w1.cell? ⟨w.heap.size, 1, none⟩ = some (.slice B m cp) := (h1.cell (p := ⟨w.heap.size, 1, none⟩) (by simp; (try omega))).trans (by simp)
  have hb : Below w.heap.size w w1 := ((Below.refl _ w).alloc (Nat.le_refl _) _).trans (h1.mono (by simp))
  clear h1
  go_wp2_with fail
  refine (CHK.out _ (HIN.out.calls hb)).mono ?_
  rintro e w2 ⟨rfl, h2⟩
  replace c1 := (h2.cell (by (try dsimp only); omega)).trans c1
  replace c2 := (h2.cell (by (try dsimp only); omega)).trans c2
  replace hb := hb.trans (h2.mono hb.size)
  have z2 := h2.size
  clear h2
  go_wp2_with fail
  refine (shown7_any _ (HTB.out _ hb)).mono ?_
  rintro e w3 ⟨rfl, h3⟩
  go_wp2
  go_ret
  exact ⟨rfl, hb.trans (h3.mono hb.size)⟩
theorem errors7_main (A B : Option Addr) (cv cp : Nat) (vs : List Int) (ps : List Pnt) (v : Int) (w : World) (hin : PathIn w A B cv cp vs ps) (h : bnd7 vs.length ps.length = true) (h2 : vs.length ≤ 500) (h0 : pathE vs ps = 0) :
    Calls Tryd.prog 8 #[PathA A vs.length cv B ps.length cp, .int .i64 v] w fun e w' => e = .returned (.bool true) ∧ Below w.heap.size w w' := by
  have HTB := Lib.hid (fun (x : World) (hb : Below w.heap.size w x) => hin.tb.step hb)
  obtain ⟨b1, b2⟩ := bnd_ok h
  obtain ⟨n, hn⟩ : ∃ n, vs.length = n := ⟨_, rfl⟩
  obtain ⟨m, hm⟩ : ∃ m, ps.length = m := ⟨_, rfl⟩
  obtain ⟨k, hk⟩ : ∃ k, pathE vs ps = k := ⟨_, rfl⟩
  have CHK := Lib.hid (show ∀ w, PathIn w A B cv cp vs ps → Calls Tryd.prog 16 #[PathA A n cv B m cp] w fun e w' => e = .returned (.int .i64 k) ∧ Below w.heap.size w w' from fun w hi => by
    have := q7check_any A B cv cp vs ps w hi.tb hi.rv hi.rp (by omega) (by omega)
    rw [hn, hm, hk] at this
    exact this)
  rw [hn] at h2 b1
  rw [hm] at b2
  obtain rfl : k = 0 := by rw [← hk]; exact h0
  obtain ⟨i0, h0z, h0a, h0b, h0c⟩ := info_parts info_i
  obtain ⟨i1, h1z, h1a, h1b, h1c⟩ := info_parts info_pt
  have HIN := Lib.hid hin
  have HN := Lib.hid hn
  have HM := Lib.hid hm
  have HM1 := Lib.hid (show (ps ++ [zP]).length = m + 1 by rw [List.length_append, hm]; rfl)
  have HN1 := Lib.hid (show (vs ++ [v]).length = n + 1 by rw [List.length_append, hn]; rfl)
  have HN2 := Lib.hid (show (2 :: vs).length = 1 + n by rw [List.length_cons, hn]; omega)
  have FLP : (flatP ps).length = m * 2 := by rw [flatP_len, hm]
  have FLV : (vs.map iV).length = n * 1 := by rw [List.length_map, hn]; omega
  have FL1 := Lib.hid (show flatP (ps ++ [zP]) = flatP ps ++ [.int .i64 0, .int .i64 0] from flat_snoc ps zP)
  have FL2 := Lib.hid (show (vs ++ [v]).map iV = vs.map iV ++ [.int .i64 v] by simp [iV])
  have FL3 := Lib.hid (show (2 :: vs).map iV = [.int .i64 2] ++ vs.map iV by simp [iV])
  have CM := Lib.hid (show ∀ A B c d w, Vals w w.heap.size A (vs.map iV) → Cor w w.heap.size B (ps ++ [zP]) → Tab7 w → Calls Tryd.prog 16 #[PathA A n c B (m + 1) d] w fun e w' => e = .returned (.int .i64 71) ∧ Below w.heap.size w w' from fun A B c d w hv hc hT => by
    have := q7check_any A B c d vs (ps ++ [zP]) w hT hv hc (by omega) (by rw [HM1.out]; omega)
    rw [hn, HM1.out, check_more h0] at this
    exact this)
  obtain ⟨kb, hkb⟩ : ∃ k, pathE (vs ++ [v]) (ps ++ [zP]) = k := ⟨_, rfl⟩
  have hbad := check_bad (qs := ps ++ [zP]) h0 (by omega) v
  rw [hkb] at hbad
  have HBAD := Lib.hid hbad
  have CB := Lib.hid (show ∀ A B c d w, Vals w w.heap.size A ((vs ++ [v]).map iV) → Cor w w.heap.size B (ps ++ [zP]) → Tab7 w → Calls Tryd.prog 16 #[PathA A (n + 1) c B (m + 1) d] w fun e w' => e = .returned (.int .i64 kb) ∧ Below w.heap.size w w' from fun A B c d w hv hc hT => by
    have := q7check_any A B c d (vs ++ [v]) (ps ++ [zP]) w hT hv hc (by rw [HN1.out]; omega) (by rw [HM1.out]; omega)
    rw [HN1.out, HM1.out, hkb] at this
    exact this)
  have CL := Lib.hid (show ∀ A B c d w, Vals w w.heap.size A ((2 :: vs).map iV) → Cor w w.heap.size B ps → Tab7 w → Calls Tryd.prog 16 #[PathA A (1 + n) c B m d] w fun e w' => e = .returned (.int .i64 70) ∧ Below w.heap.size w w' from fun A B c d w hv hc hT => by
    have := q7check_any A B c d (2 :: vs) ps w hT hv hc (by rw [HN2.out]; omega) (by omega)
    rw [HN2.out, hm, check_line (by omega)] at this
    exact this)
  have CF := Lib.hid (show ∀ p t, ps = p :: t → ∀ A B c d w, Vals w w.heap.size A (vs.map iV) → Cor w w.heap.size B t → Tab7 w → Calls Tryd.prog 16 #[PathA A n c B (m - 1) d] w fun e w' => e = .returned (.int .i64 71) ∧ Below w.heap.size w w' from fun p t e A B c d w hv hc hT => by
    have ht : t.length = m - 1 := by rw [← hm, e]; simp
    have := q7check_any A B c d vs t w hT hv hc (by omega) (by omega)
    rw [hn, ht, check_few (by rw [← e]; exact h0)] at this
    exact this)
  rw [hn, hm] at h ⊢
  have q1 : decide ((n : Int) > 500) = false := by simp; omega
  have q2 : decide (500 < (n : Int)) = false := by simp; omega
  have q3 : decide (500 < n) = false := by simp; omega
  have HB := Lib.hid h
  clear h hn hm hin hk h0 hkb hbad
  go_enter Tryd.func8, Tryd.ntmps8
  go_wp2_with fail
  refine (bounded7_any A B n cv m cp _).mono ?_
  rintro e w1 ⟨rfl, h1⟩
  rw [HB.out]
  have z1 := h1.size
  simp at z1
  have c1 : w1.cell? ⟨w.heap.size, 0, none⟩ = some (.slice A n cv) := (h1.cell (p := ⟨w.heap.size, 0, none⟩) (by simp; (try omega))).trans (by simp)
  have c2 : w1.cell? ⟨w.heap.size, 1, none⟩ = some (.slice B m cp) := (h1.cell (p := ⟨w.heap.size, 1, none⟩) (by simp; (try omega))).trans (by simp)
  have hb : Below w.heap.size w w1 := ((Below.refl _ w).alloc (Nat.le_refl _) _).trans (h1.mono (by simp))
  clear h1
  go_wp2_with fail
  refine (CHK.out _ (HIN.out.calls hb)).mono ?_
  rintro e w2 ⟨rfl, h2⟩
  replace c1 := (h2.cell (by (try dsimp only); omega)).trans c1
  replace c2 := (h2.cell (by (try dsimp only); omega)).trans c2
  replace hb := hb.trans (h2.mono hb.size)
  have z2 := h2.size
  clear h2
  go_wp2_with fail
  refine (shown7_any _ (HTB.out _ hb)).mono ?_
  rintro e w3 ⟨rfl, h3⟩
  replace c1 := (h3.cell (by (try dsimp only); omega)).trans c1
  replace c2 := (h3.cell (by (try dsimp only); omega)).trans c2
  replace hb := hb.trans (h3.mono hb.size)
  have z3 := h3.size
  clear h3
  have HIN3 := Lib.hid (HIN.out.calls hb)
  have hzw : w.heap.size < w3.heap.size := by omega
  go_upto_region 3 with fail
  go_cut [5] (fun s5 z => BoxOut w3 vs (ps ++ [zP]) s5 z)
  case first =>
    have KK0 := Lib.hid (show Below w3.heap.size w3 w3.drew from (Below.refl _ _).drew)
    refine wp_region_held_drew (S := fun z => z.cell? ⟨w.heap.size, 0, none⟩ = some (.slice A n cv) ∧ z.cell? ⟨w.heap.size, 1, none⟩ = some (.slice B m cp) ∧ Below w3.heap.size w3 z) (by kernel_rfl) ⟨(KK0.out.cell (p := ⟨w.heap.size, 0, none⟩) (by dsimp only; omega)).trans c1, (KK0.out.cell (p := ⟨w.heap.size, 1, none⟩) (by dsimp only; omega)).trans c2, KK0.out⟩ (fun hHeld => ?_)
    refine wpAnyH_take (i := 0) (oi := ⟨some 29, _, _, _, _, _⟩) (v := ?_) rfl (by kernel_rfl) (by kernel_rfl) (by kernel_rfl) (fun _ _ _ h => h) (Or.inl ⟨by rfl, ?_⟩) (by assumption) ?_
    rotate_left
    · (intro w hSw; (try dsimp only at hSw); go_simp; (try with_reducible rfl))
    try simp only [Act.put, List.setIfInBounds_toArray, List.set_cons_zero, List.set_cons_succ]
    refine wpAnyH_take (i := 1) (oi := ⟨some 30, _, _, _, _, _⟩) (v := ?_) rfl (by kernel_rfl) (by kernel_rfl) (by kernel_rfl) (fun _ _ _ h => h) (Or.inl ⟨by rfl, ?_⟩) (by assumption) ?_
    rotate_left
    · (intro w hSw; (try dsimp only at hSw); go_simp; (try with_reducible rfl))
    try simp only [Act.put, List.setIfInBounds_toArray, List.set_cons_zero, List.set_cons_succ]
    refine wpAnyH_take (i := 3) (oi := ⟨some 32, _, _, _, _, _⟩) (v := ?_) rfl (by kernel_rfl) (by kernel_rfl) (by kernel_rfl) (fun _ _ _ h => h) (Or.inl ⟨by rfl, ?_⟩) (by assumption) ?_
    rotate_left
    · (intro w hSw; (try dsimp only at hSw); go_simp; (try with_reducible rfl))
    try simp only [Act.put, List.setIfInBounds_toArray, List.set_cons_zero, List.set_cons_succ]
    refine wpAnyH_take (i := 4) (oi := ⟨some 33, _, _, _, _, _⟩) (v := ?_) rfl (by kernel_rfl) (by kernel_rfl) (by kernel_rfl) (fun _ _ _ h => h) (Or.inl ⟨by rfl, ?_⟩) (by assumption) ?_
    rotate_left
    · (intro w hSw; (try dsimp only at hSw); go_simp; (try with_reducible rfl))
    try simp only [Act.put, List.setIfInBounds_toArray, List.set_cons_zero, List.set_cons_succ]
    refine wpAnyH_take (i := 6) (oi := ⟨some 35, _, _, _, _, _⟩) (v := ?_) rfl (by kernel_rfl) (by kernel_rfl) (by kernel_rfl) (fun _ _ _ h => h) (Or.inl ⟨by rfl, ?_⟩) (by assumption) ?_
    rotate_left
    · (intro w hSw; (try dsimp only at hSw); go_simp; (try with_reducible rfl))
    try simp only [Act.put, List.setIfInBounds_toArray, List.set_cons_zero, List.set_cons_succ]
    refine wpAnyH_ready (rs := [2, 7, 10]) (by kernel_rfl) (by simp) ?_
    refine AllReadyH.cons (o := ⟨some 31, _, _, _, _, _⟩) rfl (fun K hK => ?_) ?_
    · go_simp
      refine hK.out _ _ ?_ (fun hHeld => ?_)
      · exact ⟨((KK0.out.alloc KK0.out.size _).cell (p := ⟨w.heap.size, 0, none⟩) (by dsimp only; omega)).trans c1, ((KK0.out.alloc KK0.out.size _).cell (p := ⟨w.heap.size, 1, none⟩) (by dsimp only; omega)).trans c2, (KK0.out.alloc KK0.out.size _)⟩
      clear hK K
      try simp only [Act.put, List.setIfInBounds_toArray, List.set_cons_zero, List.set_cons_succ]
      have KK1 := Lib.hid (KK0.out.alloc KK0.out.size (Obj.cells #[] 44))
      have EE2 := Lib.hid (own_made' w3.drew 44 (w3.heap.size) 2 (w3.heap.size) (by first | (simp; done) | (simp; omega) | omega) KK0.out.size)
      refine wpAnyH_ready (rs := [5, 7, 10]) (by kernel_rfl) (by simp) ?_
      refine AllReadyH.cons (o := ⟨some 34, _, _, _, _, _⟩) rfl (fun K hK => ?_) ?_
      · refine step_append_full (by rfl) _ _ (by rfl) w3.heap.size i1 _ 2 16 und_pt und_pt h1z h1a h1b h1c rfl (by omega) (.slice (some ⟨w3.heap.size, 0, none⟩) 0 0) 0 [] (by rfl) EE2.out B m cp (flatP ps) (by rfl) FLP (cor_news (HIN3.out.rp.step KK1.out)) (flatP_one ps) (HIN3.out.np) (by simp [maxLen]; omega) (by omega) (KK1.out.size) ?_
        intro aB cB wB apB
        simp only [Nat.zero_add, List.nil_append] at apB ⊢
        have KK3 := Lib.hid (KK1.out.grown apB.grew KK1.out.size (fun k e => (EE2.out.lt k e).1))
        have zB : w3.heap.size + 1 ≤ wB.heap.size := by have h := apB.grew.size; (try simp at h); omega
        have EE4 := Lib.hid apB.row
        refine hK.out _ _ ?_ (fun hHeld => ?_)
        · exact ⟨(KK3.out.cell (p := ⟨w.heap.size, 0, none⟩) (by dsimp only; omega)).trans c1, (KK3.out.cell (p := ⟨w.heap.size, 1, none⟩) (by dsimp only; omega)).trans c2, KK3.out⟩
        clear hK K
        try simp only [Act.put, List.setIfInBounds_toArray, List.set_cons_zero, List.set_cons_succ]
        refine wpAnyH_ready (rs := [7, 10]) (by kernel_rfl) (by simp) ?_
        refine AllReadyH.cons (o := ⟨some 36, _, _, _, _, _⟩) rfl (fun K hK => ?_) ?_
        · go_simp
          refine hK.out _ _ ?_ (fun hHeld => ?_)
          · exact ⟨((KK3.out.alloc KK3.out.size _).cell (p := ⟨w.heap.size, 0, none⟩) (by dsimp only; omega)).trans c1, ((KK3.out.alloc KK3.out.size _).cell (p := ⟨w.heap.size, 1, none⟩) (by dsimp only; omega)).trans c2, (KK3.out.alloc KK3.out.size _)⟩
          clear hK K
          try simp only [Act.put, List.setIfInBounds_toArray, List.set_cons_zero, List.set_cons_succ]
          have KK5 := Lib.hid (KK3.out.alloc KK3.out.size (Obj.cells #[.int .i64 0, .int .i64 0] 44))
          have EE6 := Lib.hid (EE4.out.alloc (Obj.cells #[.int .i64 0, .int .i64 0] 44))
          have NN7 := Lib.hid (blk_new wB (Obj.cells #[.int .i64 0, .int .i64 0] 44) (wB.heap.size) (by first | (simp; done) | (simp; omega) | omega))
          refine wpAnyH_ready (rs := [8, 10]) (by kernel_rfl) (by simp) ?_
          refine AllReadyH.cons (o := ⟨some 37, _, _, _, _, _⟩) rfl (fun K hK => ?_) ?_
          · refine step_append_full (by rfl) _ _ (by rfl) w3.heap.size i1 _ 2 16 und_pt und_pt h1z h1a h1b h1c rfl (by omega) (.slice aB (m) cB) (m) (flatP ps) (by rfl) EE6.out (some ⟨wB.heap.size, 0, none⟩) 1 1 [.int .i64 0, .int .i64 0] (by rfl) (by rfl) (fun j u hu => ⟨_, rfl, World.news_of_block (cs := #[.int .i64 0, .int .i64 0]) (t := 44) (fr := (0, 0)) NN7.out j u hu⟩) (by simp [Value.oneCell']) (by simp) (by simp [maxLen]; omega) (by omega) (KK5.out.size) ?_
            intro aD cD wD apD
            have KK8 := Lib.hid (KK5.out.grown apD.grew KK5.out.size (fun k e => (EE6.out.lt k e).1))
            have zD : wB.heap.size + 1 ≤ wD.heap.size := by have h := apD.grew.size; (try simp at h); omega
            have EE9 := Lib.hid apD.row
            refine hK.out _ _ ?_ (fun hHeld => ?_)
            · exact ⟨(KK8.out.cell (p := ⟨w.heap.size, 0, none⟩) (by dsimp only; omega)).trans c1, (KK8.out.cell (p := ⟨w.heap.size, 1, none⟩) (by dsimp only; omega)).trans c2, KK8.out⟩
            clear hK K
            try simp only [Act.put, List.setIfInBounds_toArray, List.set_cons_zero, List.set_cons_succ]
            refine wpAnyH_take (i := 9) (oi := ⟨some 38, _, _, _, _, _⟩) (v := ?_) rfl (by kernel_rfl) (by kernel_rfl) (by kernel_rfl) (fun _ _ _ h => h) (Or.inl ⟨by rfl, ?_⟩) (by assumption) ?_
            rotate_left
            · (intro w hSw; (try dsimp only at hSw); go_simp; (try with_reducible rfl))
            try simp only [Act.put, List.setIfInBounds_toArray, List.set_cons_zero, List.set_cons_succ]
            refine wpAnyH_ready (rs := [10]) (by kernel_rfl) (by simp) ?_
            refine AllReadyH.cons (o := ⟨some 5, _, _, _, _, _⟩) rfl (fun K hK => ?_) ?_
            · go_simp
              refine hK.out _ _ ?_ (fun hHeld => ?_)
              · exact ⟨((KK8.out.alloc KK8.out.size _).cell (p := ⟨w.heap.size, 0, none⟩) (by dsimp only; omega)).trans c1, ((KK8.out.alloc KK8.out.size _).cell (p := ⟨w.heap.size, 1, none⟩) (by dsimp only; omega)).trans c2, (KK8.out.alloc KK8.out.size _)⟩
              clear hK K
              try simp only [Act.put, List.setIfInBounds_toArray, List.set_cons_zero, List.set_cons_succ]
              have KK10 := Lib.hid (KK8.out.alloc KK8.out.size (Obj.cells #[.slice none 0 0, .slice none 0 0] 25))
              have EE11 := Lib.hid (EE9.out.alloc (Obj.cells #[.slice none 0 0, .slice none 0 0] 25))
              have NN12 := Lib.hid (blk_alloc NN7.out (Obj.cells #[.slice none 0 0, .slice none 0 0] 25))
              have PP13 := Lib.hid (blk_new wD (Obj.cells #[.slice none 0 0, .slice none 0 0] 25) (wD.heap.size) (by first | (simp; done) | (simp; omega) | omega))
              refine wpAnyH_ready (rs := [11]) (by kernel_rfl) (by simp) ?_
              refine AllReadyH.cons (o := ⟨none, _, _, _, _, _⟩) rfl (fun K hK => ?_) ?_
              · have q0 := blk_cell PP13.out (j := 0) (u := .slice none 0 0) rfl
                have q1 := blk_cell PP13.out (j := 1) (u := .slice none 0 0) rfl
                obtain ⟨q0, f0⟩ := q0
                obtain ⟨q1, f1⟩ := q1
                go_simp
                refine hK.out _ _ ?_ (fun hHeld => ?_)
                · exact ⟨((KK8.out.alloc KK8.out.size _).cell (p := ⟨w.heap.size, 0, none⟩) (by dsimp only; omega)).trans c1, ((KK8.out.alloc KK8.out.size _).cell (p := ⟨w.heap.size, 1, none⟩) (by dsimp only; omega)).trans c2, (KK8.out.alloc KK8.out.size _)⟩
                clear hK K
                try simp only [Act.put, List.setIfInBounds_toArray, List.set_cons_zero, List.set_cons_succ]
                refine wpAnyH_done (by kernel_rfl) ?_ _
                go_wp2_with fail
                go_meet
                have hrow := EE9.out
                rw [← FL1.out] at hrow
                obtain ⟨_, _, hvD, _, hcD, _⟩ := cor_of_row hrow
                simp only [Value.slice.injEq] at hvD
                obtain ⟨rfl, _, rfl⟩ := hvD
                exact box_new (n) (m + 1) HN.out HM1.out ((HIN3.out.rv.step KK8.out).more KK8.out.size) hcD ((by first | (simp; done) | (simp; omega) | omega)) (HIN3.out.rv.lt (by omega)) (own_ne (fun e => by cases apD.own with | inl k => (rw [k] at e; first | (have h := (apB.row.lt _ e).2; omega) | (rcases apB.own with k2 | k2 <;> (rw [k2] at e; simp [Value.ownBlock] at e; try omega))) | inr k => (first | (have h := (apD.row.lt _ e).2; omega) | (rw [k] at e; simp [Value.ownBlock] at e; try omega)))) KK8.out.size KK8.out
              exact AllReadyH.nil
            exact AllReadyH.nil
          refine AllReadyH.cons (o := ⟨some 5, _, _, _, _, _⟩) rfl (fun K hK => ?_) ?_
          · go_simp
            refine hK.out _ _ ?_ (fun hHeld => ?_)
            · exact ⟨((KK5.out.alloc KK5.out.size _).cell (p := ⟨w.heap.size, 0, none⟩) (by dsimp only; omega)).trans c1, ((KK5.out.alloc KK5.out.size _).cell (p := ⟨w.heap.size, 1, none⟩) (by dsimp only; omega)).trans c2, (KK5.out.alloc KK5.out.size _)⟩
            clear hK K
            try simp only [Act.put, List.setIfInBounds_toArray, List.set_cons_zero, List.set_cons_succ]
            have KK14 := Lib.hid (KK5.out.alloc KK5.out.size (Obj.cells #[.slice none 0 0, .slice none 0 0] 25))
            have EE15 := Lib.hid (EE6.out.alloc (Obj.cells #[.slice none 0 0, .slice none 0 0] 25))
            have NN16 := Lib.hid (blk_alloc NN7.out (Obj.cells #[.slice none 0 0, .slice none 0 0] 25))
            have PP17 := Lib.hid (blk_new (wB.alloc (Obj.cells #[.int .i64 0, .int .i64 0] 44)) (Obj.cells #[.slice none 0 0, .slice none 0 0] 25) (wB.heap.size + 1) (by first | (simp; done) | (simp; omega) | omega))
            refine wpAnyH_ready (rs := [8]) (by kernel_rfl) (by simp) ?_
            refine AllReadyH.cons (o := ⟨some 37, _, _, _, _, _⟩) rfl (fun K hK => ?_) ?_
            · refine step_append_full (by rfl) _ _ (by rfl) w3.heap.size i1 _ 2 16 und_pt und_pt h1z h1a h1b h1c rfl (by omega) (.slice aB (m) cB) (m) (flatP ps) (by rfl) EE15.out (some ⟨wB.heap.size, 0, none⟩) 1 1 [.int .i64 0, .int .i64 0] (by rfl) (by rfl) (fun j u hu => ⟨_, rfl, World.news_of_block (cs := #[.int .i64 0, .int .i64 0]) (t := 44) (fr := (0, 0)) NN16.out j u hu⟩) (by simp [Value.oneCell']) (by simp) (by simp [maxLen]; omega) (by omega) (KK14.out.size) ?_
              intro aD cD wD apD
              have KK18 := Lib.hid (KK14.out.grown apD.grew KK14.out.size (fun k e => (EE15.out.lt k e).1))
              have zD : wB.heap.size + 1 + 1 ≤ wD.heap.size := by have h := apD.grew.size; (try simp at h); omega
              have PP19 := Lib.hid ((apD.grew.block (wB.heap.size + 1) (by first | (simp; done) | (simp; omega) | omega) (fun e => by first | (have h := (apB.row.lt _ e.symm).2; omega) | (rcases apB.own with k | k <;> (rw [k] at e; simp [Value.ownBlock] at e; try omega)))).trans PP17.out)
              have EE20 := Lib.hid apD.row
              refine hK.out _ _ ?_ (fun hHeld => ?_)
              · exact ⟨(KK18.out.cell (p := ⟨w.heap.size, 0, none⟩) (by dsimp only; omega)).trans c1, (KK18.out.cell (p := ⟨w.heap.size, 1, none⟩) (by dsimp only; omega)).trans c2, KK18.out⟩
              clear hK K
              try simp only [Act.put, List.setIfInBounds_toArray, List.set_cons_zero, List.set_cons_succ]
              refine wpAnyH_take (i := 9) (oi := ⟨some 38, _, _, _, _, _⟩) (v := ?_) rfl (by kernel_rfl) (by kernel_rfl) (by kernel_rfl) (fun _ _ _ h => h) (Or.inl ⟨by rfl, ?_⟩) (by assumption) ?_
              rotate_left
              · (intro w hSw; (try dsimp only at hSw); go_simp; (try with_reducible rfl))
              try simp only [Act.put, List.setIfInBounds_toArray, List.set_cons_zero, List.set_cons_succ]
              refine wpAnyH_ready (rs := [11]) (by kernel_rfl) (by simp) ?_
              refine AllReadyH.cons (o := ⟨none, _, _, _, _, _⟩) rfl (fun K hK => ?_) ?_
              · have q0 := blk_cell PP19.out (j := 0) (u := .slice none 0 0) rfl
                have q1 := blk_cell PP19.out (j := 1) (u := .slice none 0 0) rfl
                obtain ⟨q0, f0⟩ := q0
                obtain ⟨q1, f1⟩ := q1
                go_simp
                refine hK.out _ _ ?_ (fun hHeld => ?_)
                · exact ⟨(((KK18.out.setCell (p := ⟨wB.heap.size + 1, 0, none⟩) (by dsimp only; omega) _).setCell (p := ⟨wB.heap.size + 1, 1, none⟩) (by dsimp only; omega) _).cell (p := ⟨w.heap.size, 0, none⟩) (by dsimp only; omega)).trans c1, (((KK18.out.setCell (p := ⟨wB.heap.size + 1, 0, none⟩) (by dsimp only; omega) _).setCell (p := ⟨wB.heap.size + 1, 1, none⟩) (by dsimp only; omega) _).cell (p := ⟨w.heap.size, 1, none⟩) (by dsimp only; omega)).trans c2, ((KK18.out.setCell (p := ⟨wB.heap.size + 1, 0, none⟩) (by dsimp only; omega) _).setCell (p := ⟨wB.heap.size + 1, 1, none⟩) (by dsimp only; omega) _)⟩
                clear hK K
                try simp only [Act.put, List.setIfInBounds_toArray, List.set_cons_zero, List.set_cons_succ]
                refine wpAnyH_done (by kernel_rfl) ?_ _
                go_wp2_with fail
                go_meet
                have hrow := EE20.out
                rw [← FL1.out] at hrow
                obtain ⟨_, _, hvD, _, hcD, _⟩ := cor_of_row hrow
                simp only [Value.slice.injEq] at hvD
                obtain ⟨rfl, _, rfl⟩ := hvD
                exact box_out (n) (m + 1) HN.out HM1.out PP19.out ((HIN3.out.rv.step KK18.out).more KK18.out.size) hcD (HIN3.out.rv.lt (by omega)) (own_ne (fun e => by cases apD.own with | inl k => (rw [k] at e; first | (have h := (apB.row.lt _ e).2; omega) | (rcases apB.own with k2 | k2 <;> (rw [k2] at e; simp [Value.ownBlock] at e; try omega))) | inr k => (first | (have h := (apD.row.lt _ e).2; omega) | (rw [k] at e; simp [Value.ownBlock] at e; try omega)))) (by omega) KK18.out
              exact AllReadyH.nil
            exact AllReadyH.nil
          exact AllReadyH.nil
        refine AllReadyH.cons (o := ⟨some 5, _, _, _, _, _⟩) rfl (fun K hK => ?_) ?_
        · go_simp
          refine hK.out _ _ ?_ (fun hHeld => ?_)
          · exact ⟨((KK3.out.alloc KK3.out.size _).cell (p := ⟨w.heap.size, 0, none⟩) (by dsimp only; omega)).trans c1, ((KK3.out.alloc KK3.out.size _).cell (p := ⟨w.heap.size, 1, none⟩) (by dsimp only; omega)).trans c2, (KK3.out.alloc KK3.out.size _)⟩
          clear hK K
          try simp only [Act.put, List.setIfInBounds_toArray, List.set_cons_zero, List.set_cons_succ]
          have KK21 := Lib.hid (KK3.out.alloc KK3.out.size (Obj.cells #[.slice none 0 0, .slice none 0 0] 25))
          have EE22 := Lib.hid (EE4.out.alloc (Obj.cells #[.slice none 0 0, .slice none 0 0] 25))
          have PP23 := Lib.hid (blk_new wB (Obj.cells #[.slice none 0 0, .slice none 0 0] 25) (wB.heap.size) (by first | (simp; done) | (simp; omega) | omega))
          refine wpAnyH_ready (rs := [7]) (by kernel_rfl) (by simp) ?_
          refine AllReadyH.cons (o := ⟨some 36, _, _, _, _, _⟩) rfl (fun K hK => ?_) ?_
          · go_simp
            refine hK.out _ _ ?_ (fun hHeld => ?_)
            · exact ⟨((KK21.out.alloc KK21.out.size _).cell (p := ⟨w.heap.size, 0, none⟩) (by dsimp only; omega)).trans c1, ((KK21.out.alloc KK21.out.size _).cell (p := ⟨w.heap.size, 1, none⟩) (by dsimp only; omega)).trans c2, (KK21.out.alloc KK21.out.size _)⟩
            clear hK K
            try simp only [Act.put, List.setIfInBounds_toArray, List.set_cons_zero, List.set_cons_succ]
            have KK24 := Lib.hid (KK21.out.alloc KK21.out.size (Obj.cells #[.int .i64 0, .int .i64 0] 44))
            have EE25 := Lib.hid (EE22.out.alloc (Obj.cells #[.int .i64 0, .int .i64 0] 44))
            have PP26 := Lib.hid (blk_alloc PP23.out (Obj.cells #[.int .i64 0, .int .i64 0] 44))
            have NN27 := Lib.hid (blk_new (wB.alloc (Obj.cells #[.slice none 0 0, .slice none 0 0] 25)) (Obj.cells #[.int .i64 0, .int .i64 0] 44) (wB.heap.size + 1) (by first | (simp; done) | (simp; omega) | omega))
            refine wpAnyH_ready (rs := [8]) (by kernel_rfl) (by simp) ?_
            refine AllReadyH.cons (o := ⟨some 37, _, _, _, _, _⟩) rfl (fun K hK => ?_) ?_
            · refine step_append_full (by rfl) _ _ (by rfl) w3.heap.size i1 _ 2 16 und_pt und_pt h1z h1a h1b h1c rfl (by omega) (.slice aB (m) cB) (m) (flatP ps) (by rfl) EE25.out (some ⟨wB.heap.size + 1, 0, none⟩) 1 1 [.int .i64 0, .int .i64 0] (by rfl) (by rfl) (fun j u hu => ⟨_, rfl, World.news_of_block (cs := #[.int .i64 0, .int .i64 0]) (t := 44) (fr := (0, 0)) NN27.out j u hu⟩) (by simp [Value.oneCell']) (by simp) (by simp [maxLen]; omega) (by omega) (KK24.out.size) ?_
              intro aD cD wD apD
              have KK28 := Lib.hid (KK24.out.grown apD.grew KK24.out.size (fun k e => (EE25.out.lt k e).1))
              have zD : wB.heap.size + 1 + 1 ≤ wD.heap.size := by have h := apD.grew.size; (try simp at h); omega
              have PP29 := Lib.hid ((apD.grew.block (wB.heap.size) (by first | (simp; done) | (simp; omega) | omega) (fun e => by first | (have h := (apB.row.lt _ e.symm).2; omega) | (rcases apB.own with k | k <;> (rw [k] at e; simp [Value.ownBlock] at e; try omega)))).trans PP26.out)
              have EE30 := Lib.hid apD.row
              refine hK.out _ _ ?_ (fun hHeld => ?_)
              · exact ⟨(KK28.out.cell (p := ⟨w.heap.size, 0, none⟩) (by dsimp only; omega)).trans c1, (KK28.out.cell (p := ⟨w.heap.size, 1, none⟩) (by dsimp only; omega)).trans c2, KK28.out⟩
              clear hK K
              try simp only [Act.put, List.setIfInBounds_toArray, List.set_cons_zero, List.set_cons_succ]
              refine wpAnyH_take (i := 9) (oi := ⟨some 38, _, _, _, _, _⟩) (v := ?_) rfl (by kernel_rfl) (by kernel_rfl) (by kernel_rfl) (fun _ _ _ h => h) (Or.inl ⟨by rfl, ?_⟩) (by assumption) ?_
              rotate_left
              · (intro w hSw; (try dsimp only at hSw); go_simp; (try with_reducible rfl))
              try simp only [Act.put, List.setIfInBounds_toArray, List.set_cons_zero, List.set_cons_succ]
              refine wpAnyH_ready (rs := [11]) (by kernel_rfl) (by simp) ?_
              refine AllReadyH.cons (o := ⟨none, _, _, _, _, _⟩) rfl (fun K hK => ?_) ?_
              · have q0 := blk_cell PP29.out (j := 0) (u := .slice none 0 0) rfl
                have q1 := blk_cell PP29.out (j := 1) (u := .slice none 0 0) rfl
                obtain ⟨q0, f0⟩ := q0
                obtain ⟨q1, f1⟩ := q1
                go_simp
                refine hK.out _ _ ?_ (fun hHeld => ?_)
                · exact ⟨(((KK28.out.setCell (p := ⟨wB.heap.size, 0, none⟩) (by dsimp only; omega) _).setCell (p := ⟨wB.heap.size, 1, none⟩) (by dsimp only; omega) _).cell (p := ⟨w.heap.size, 0, none⟩) (by dsimp only; omega)).trans c1, (((KK28.out.setCell (p := ⟨wB.heap.size, 0, none⟩) (by dsimp only; omega) _).setCell (p := ⟨wB.heap.size, 1, none⟩) (by dsimp only; omega) _).cell (p := ⟨w.heap.size, 1, none⟩) (by dsimp only; omega)).trans c2, ((KK28.out.setCell (p := ⟨wB.heap.size, 0, none⟩) (by dsimp only; omega) _).setCell (p := ⟨wB.heap.size, 1, none⟩) (by dsimp only; omega) _)⟩
                clear hK K
                try simp only [Act.put, List.setIfInBounds_toArray, List.set_cons_zero, List.set_cons_succ]
                refine wpAnyH_done (by kernel_rfl) ?_ _
                go_wp2_with fail
                go_meet
                have hrow := EE30.out
                rw [← FL1.out] at hrow
                obtain ⟨_, _, hvD, _, hcD, _⟩ := cor_of_row hrow
                simp only [Value.slice.injEq] at hvD
                obtain ⟨rfl, _, rfl⟩ := hvD
                exact box_out (n) (m + 1) HN.out HM1.out PP29.out ((HIN3.out.rv.step KK28.out).more KK28.out.size) hcD (HIN3.out.rv.lt (by omega)) (own_ne (fun e => by cases apD.own with | inl k => (rw [k] at e; first | (have h := (apB.row.lt _ e).2; omega) | (rcases apB.own with k2 | k2 <;> (rw [k2] at e; simp [Value.ownBlock] at e; try omega))) | inr k => (first | (have h := (apD.row.lt _ e).2; omega) | (rw [k] at e; simp [Value.ownBlock] at e; try omega)))) (by omega) KK28.out
              exact AllReadyH.nil
            exact AllReadyH.nil
          exact AllReadyH.nil
        exact AllReadyH.nil
      refine AllReadyH.cons (o := ⟨some 36, _, _, _, _, _⟩) rfl (fun K hK => ?_) ?_
      · go_simp
        refine hK.out _ _ ?_ (fun hHeld => ?_)
        · exact ⟨((KK1.out.alloc KK1.out.size _).cell (p := ⟨w.heap.size, 0, none⟩) (by dsimp only; omega)).trans c1, ((KK1.out.alloc KK1.out.size _).cell (p := ⟨w.heap.size, 1, none⟩) (by dsimp only; omega)).trans c2, (KK1.out.alloc KK1.out.size _)⟩
        clear hK K
        try simp only [Act.put, List.setIfInBounds_toArray, List.set_cons_zero, List.set_cons_succ]
        have KK31 := Lib.hid (KK1.out.alloc KK1.out.size (Obj.cells #[.int .i64 0, .int .i64 0] 44))
        have EE32 := Lib.hid (EE2.out.alloc (Obj.cells #[.int .i64 0, .int .i64 0] 44))
        have NN33 := Lib.hid (blk_new (w3.drew.alloc (Obj.cells #[] 44)) (Obj.cells #[.int .i64 0, .int .i64 0] 44) (w3.heap.size + 1) (by first | (simp; done) | (simp; omega) | omega))
        refine wpAnyH_ready (rs := [5, 10]) (by kernel_rfl) (by simp) ?_
        refine AllReadyH.cons (o := ⟨some 34, _, _, _, _, _⟩) rfl (fun K hK => ?_) ?_
        · refine step_append_full (by rfl) _ _ (by rfl) w3.heap.size i1 _ 2 16 und_pt und_pt h1z h1a h1b h1c rfl (by omega) (.slice (some ⟨w3.heap.size, 0, none⟩) 0 0) 0 [] (by rfl) EE32.out B m cp (flatP ps) (by rfl) FLP (cor_news (HIN3.out.rp.step KK31.out)) (flatP_one ps) (HIN3.out.np) (by simp [maxLen]; omega) (by omega) (KK31.out.size) ?_
          intro aB cB wB apB
          simp only [Nat.zero_add, List.nil_append] at apB ⊢
          have KK34 := Lib.hid (KK31.out.grown apB.grew KK31.out.size (fun k e => (EE32.out.lt k e).1))
          have zB : w3.heap.size + 1 + 1 ≤ wB.heap.size := by have h := apB.grew.size; (try simp at h); omega
          have NN35 := Lib.hid ((apB.grew.block (w3.heap.size + 1) (by first | (simp; done) | (simp; omega) | omega) (by first | (simp [Value.ownBlock]; done) | (simp [Value.ownBlock]; omega))).trans NN33.out)
          have EE36 := Lib.hid apB.row
          refine hK.out _ _ ?_ (fun hHeld => ?_)
          · exact ⟨(KK34.out.cell (p := ⟨w.heap.size, 0, none⟩) (by dsimp only; omega)).trans c1, (KK34.out.cell (p := ⟨w.heap.size, 1, none⟩) (by dsimp only; omega)).trans c2, KK34.out⟩
          clear hK K
          try simp only [Act.put, List.setIfInBounds_toArray, List.set_cons_zero, List.set_cons_succ]
          refine wpAnyH_ready (rs := [8, 10]) (by kernel_rfl) (by simp) ?_
          refine AllReadyH.cons (o := ⟨some 37, _, _, _, _, _⟩) rfl (fun K hK => ?_) ?_
          · refine step_append_full (by rfl) _ _ (by rfl) w3.heap.size i1 _ 2 16 und_pt und_pt h1z h1a h1b h1c rfl (by omega) (.slice aB (m) cB) (m) (flatP ps) (by rfl) EE36.out (some ⟨w3.heap.size + 1, 0, none⟩) 1 1 [.int .i64 0, .int .i64 0] (by rfl) (by rfl) (fun j u hu => ⟨_, rfl, World.news_of_block (cs := #[.int .i64 0, .int .i64 0]) (t := 44) (fr := (0, 0)) NN35.out j u hu⟩) (by simp [Value.oneCell']) (by simp) (by simp [maxLen]; omega) (by omega) (KK34.out.size) ?_
            intro aD cD wD apD
            have KK37 := Lib.hid (KK34.out.grown apD.grew KK34.out.size (fun k e => (EE36.out.lt k e).1))
            have zD : wB.heap.size ≤ wD.heap.size := by have h := apD.grew.size; (try simp at h); omega
            have EE38 := Lib.hid apD.row
            refine hK.out _ _ ?_ (fun hHeld => ?_)
            · exact ⟨(KK37.out.cell (p := ⟨w.heap.size, 0, none⟩) (by dsimp only; omega)).trans c1, (KK37.out.cell (p := ⟨w.heap.size, 1, none⟩) (by dsimp only; omega)).trans c2, KK37.out⟩
            clear hK K
            try simp only [Act.put, List.setIfInBounds_toArray, List.set_cons_zero, List.set_cons_succ]
            refine wpAnyH_take (i := 9) (oi := ⟨some 38, _, _, _, _, _⟩) (v := ?_) rfl (by kernel_rfl) (by kernel_rfl) (by kernel_rfl) (fun _ _ _ h => h) (Or.inl ⟨by rfl, ?_⟩) (by assumption) ?_
            rotate_left
            · (intro w hSw; (try dsimp only at hSw); go_simp; (try with_reducible rfl))
            try simp only [Act.put, List.setIfInBounds_toArray, List.set_cons_zero, List.set_cons_succ]
            refine wpAnyH_ready (rs := [10]) (by kernel_rfl) (by simp) ?_
            refine AllReadyH.cons (o := ⟨some 5, _, _, _, _, _⟩) rfl (fun K hK => ?_) ?_
            · go_simp
              refine hK.out _ _ ?_ (fun hHeld => ?_)
              · exact ⟨((KK37.out.alloc KK37.out.size _).cell (p := ⟨w.heap.size, 0, none⟩) (by dsimp only; omega)).trans c1, ((KK37.out.alloc KK37.out.size _).cell (p := ⟨w.heap.size, 1, none⟩) (by dsimp only; omega)).trans c2, (KK37.out.alloc KK37.out.size _)⟩
              clear hK K
              try simp only [Act.put, List.setIfInBounds_toArray, List.set_cons_zero, List.set_cons_succ]
              have KK39 := Lib.hid (KK37.out.alloc KK37.out.size (Obj.cells #[.slice none 0 0, .slice none 0 0] 25))
              have EE40 := Lib.hid (EE38.out.alloc (Obj.cells #[.slice none 0 0, .slice none 0 0] 25))
              have NN41 := Lib.hid (blk_alloc NN35.out (Obj.cells #[.slice none 0 0, .slice none 0 0] 25))
              have PP42 := Lib.hid (blk_new wD (Obj.cells #[.slice none 0 0, .slice none 0 0] 25) (wD.heap.size) (by first | (simp; done) | (simp; omega) | omega))
              refine wpAnyH_ready (rs := [11]) (by kernel_rfl) (by simp) ?_
              refine AllReadyH.cons (o := ⟨none, _, _, _, _, _⟩) rfl (fun K hK => ?_) ?_
              · have q0 := blk_cell PP42.out (j := 0) (u := .slice none 0 0) rfl
                have q1 := blk_cell PP42.out (j := 1) (u := .slice none 0 0) rfl
                obtain ⟨q0, f0⟩ := q0
                obtain ⟨q1, f1⟩ := q1
                go_simp
                refine hK.out _ _ ?_ (fun hHeld => ?_)
                · exact ⟨((KK37.out.alloc KK37.out.size _).cell (p := ⟨w.heap.size, 0, none⟩) (by dsimp only; omega)).trans c1, ((KK37.out.alloc KK37.out.size _).cell (p := ⟨w.heap.size, 1, none⟩) (by dsimp only; omega)).trans c2, (KK37.out.alloc KK37.out.size _)⟩
                clear hK K
                try simp only [Act.put, List.setIfInBounds_toArray, List.set_cons_zero, List.set_cons_succ]
                refine wpAnyH_done (by kernel_rfl) ?_ _
                go_wp2_with fail
                go_meet
                have hrow := EE38.out
                rw [← FL1.out] at hrow
                obtain ⟨_, _, hvD, _, hcD, _⟩ := cor_of_row hrow
                simp only [Value.slice.injEq] at hvD
                obtain ⟨rfl, _, rfl⟩ := hvD
                exact box_new (n) (m + 1) HN.out HM1.out ((HIN3.out.rv.step KK37.out).more KK37.out.size) hcD ((by first | (simp; done) | (simp; omega) | omega)) (HIN3.out.rv.lt (by omega)) (own_ne (fun e => by cases apD.own with | inl k => (rw [k] at e; first | (have h := (apB.row.lt _ e).2; omega) | (rcases apB.own with k2 | k2 <;> (rw [k2] at e; simp [Value.ownBlock] at e; try omega))) | inr k => (first | (have h := (apD.row.lt _ e).2; omega) | (rw [k] at e; simp [Value.ownBlock] at e; try omega)))) KK37.out.size KK37.out
              exact AllReadyH.nil
            exact AllReadyH.nil
          refine AllReadyH.cons (o := ⟨some 5, _, _, _, _, _⟩) rfl (fun K hK => ?_) ?_
          · go_simp
            refine hK.out _ _ ?_ (fun hHeld => ?_)
            · exact ⟨((KK34.out.alloc KK34.out.size _).cell (p := ⟨w.heap.size, 0, none⟩) (by dsimp only; omega)).trans c1, ((KK34.out.alloc KK34.out.size _).cell (p := ⟨w.heap.size, 1, none⟩) (by dsimp only; omega)).trans c2, (KK34.out.alloc KK34.out.size _)⟩
            clear hK K
            try simp only [Act.put, List.setIfInBounds_toArray, List.set_cons_zero, List.set_cons_succ]
            have KK43 := Lib.hid (KK34.out.alloc KK34.out.size (Obj.cells #[.slice none 0 0, .slice none 0 0] 25))
            have EE44 := Lib.hid (EE36.out.alloc (Obj.cells #[.slice none 0 0, .slice none 0 0] 25))
            have NN45 := Lib.hid (blk_alloc NN35.out (Obj.cells #[.slice none 0 0, .slice none 0 0] 25))
            have PP46 := Lib.hid (blk_new wB (Obj.cells #[.slice none 0 0, .slice none 0 0] 25) (wB.heap.size) (by first | (simp; done) | (simp; omega) | omega))
            refine wpAnyH_ready (rs := [8]) (by kernel_rfl) (by simp) ?_
            refine AllReadyH.cons (o := ⟨some 37, _, _, _, _, _⟩) rfl (fun K hK => ?_) ?_
            · refine step_append_full (by rfl) _ _ (by rfl) w3.heap.size i1 _ 2 16 und_pt und_pt h1z h1a h1b h1c rfl (by omega) (.slice aB (m) cB) (m) (flatP ps) (by rfl) EE44.out (some ⟨w3.heap.size + 1, 0, none⟩) 1 1 [.int .i64 0, .int .i64 0] (by rfl) (by rfl) (fun j u hu => ⟨_, rfl, World.news_of_block (cs := #[.int .i64 0, .int .i64 0]) (t := 44) (fr := (0, 0)) NN45.out j u hu⟩) (by simp [Value.oneCell']) (by simp) (by simp [maxLen]; omega) (by omega) (KK43.out.size) ?_
              intro aD cD wD apD
              have KK47 := Lib.hid (KK43.out.grown apD.grew KK43.out.size (fun k e => (EE44.out.lt k e).1))
              have zD : wB.heap.size + 1 ≤ wD.heap.size := by have h := apD.grew.size; (try simp at h); omega
              have PP48 := Lib.hid ((apD.grew.block (wB.heap.size) (by first | (simp; done) | (simp; omega) | omega) (fun e => by first | (have h := (apB.row.lt _ e.symm).2; omega) | (rcases apB.own with k | k <;> (rw [k] at e; simp [Value.ownBlock] at e; try omega)))).trans PP46.out)
              have EE49 := Lib.hid apD.row
              refine hK.out _ _ ?_ (fun hHeld => ?_)
              · exact ⟨(KK47.out.cell (p := ⟨w.heap.size, 0, none⟩) (by dsimp only; omega)).trans c1, (KK47.out.cell (p := ⟨w.heap.size, 1, none⟩) (by dsimp only; omega)).trans c2, KK47.out⟩
              clear hK K
              try simp only [Act.put, List.setIfInBounds_toArray, List.set_cons_zero, List.set_cons_succ]
              refine wpAnyH_take (i := 9) (oi := ⟨some 38, _, _, _, _, _⟩) (v := ?_) rfl (by kernel_rfl) (by kernel_rfl) (by kernel_rfl) (fun _ _ _ h => h) (Or.inl ⟨by rfl, ?_⟩) (by assumption) ?_
              rotate_left
              · (intro w hSw; (try dsimp only at hSw); go_simp; (try with_reducible rfl))
              try simp only [Act.put, List.setIfInBounds_toArray, List.set_cons_zero, List.set_cons_succ]
              refine wpAnyH_ready (rs := [11]) (by kernel_rfl) (by simp) ?_
              refine AllReadyH.cons (o := ⟨none, _, _, _, _, _⟩) rfl (fun K hK => ?_) ?_
              · have q0 := blk_cell PP48.out (j := 0) (u := .slice none 0 0) rfl
                have q1 := blk_cell PP48.out (j := 1) (u := .slice none 0 0) rfl
                obtain ⟨q0, f0⟩ := q0
                obtain ⟨q1, f1⟩ := q1
                go_simp
                refine hK.out _ _ ?_ (fun hHeld => ?_)
                · exact ⟨(((KK47.out.setCell (p := ⟨wB.heap.size, 0, none⟩) (by dsimp only; omega) _).setCell (p := ⟨wB.heap.size, 1, none⟩) (by dsimp only; omega) _).cell (p := ⟨w.heap.size, 0, none⟩) (by dsimp only; omega)).trans c1, (((KK47.out.setCell (p := ⟨wB.heap.size, 0, none⟩) (by dsimp only; omega) _).setCell (p := ⟨wB.heap.size, 1, none⟩) (by dsimp only; omega) _).cell (p := ⟨w.heap.size, 1, none⟩) (by dsimp only; omega)).trans c2, ((KK47.out.setCell (p := ⟨wB.heap.size, 0, none⟩) (by dsimp only; omega) _).setCell (p := ⟨wB.heap.size, 1, none⟩) (by dsimp only; omega) _)⟩
                clear hK K
                try simp only [Act.put, List.setIfInBounds_toArray, List.set_cons_zero, List.set_cons_succ]
                refine wpAnyH_done (by kernel_rfl) ?_ _
                go_wp2_with fail
                go_meet
                have hrow := EE49.out
                rw [← FL1.out] at hrow
                obtain ⟨_, _, hvD, _, hcD, _⟩ := cor_of_row hrow
                simp only [Value.slice.injEq] at hvD
                obtain ⟨rfl, _, rfl⟩ := hvD
                exact box_out (n) (m + 1) HN.out HM1.out PP48.out ((HIN3.out.rv.step KK47.out).more KK47.out.size) hcD (HIN3.out.rv.lt (by omega)) (own_ne (fun e => by cases apD.own with | inl k => (rw [k] at e; first | (have h := (apB.row.lt _ e).2; omega) | (rcases apB.own with k2 | k2 <;> (rw [k2] at e; simp [Value.ownBlock] at e; try omega))) | inr k => (first | (have h := (apD.row.lt _ e).2; omega) | (rw [k] at e; simp [Value.ownBlock] at e; try omega)))) (by omega) KK47.out
              exact AllReadyH.nil
            exact AllReadyH.nil
          exact AllReadyH.nil
        refine AllReadyH.cons (o := ⟨some 5, _, _, _, _, _⟩) rfl (fun K hK => ?_) ?_
        · go_simp
          refine hK.out _ _ ?_ (fun hHeld => ?_)
          · exact ⟨((KK31.out.alloc KK31.out.size _).cell (p := ⟨w.heap.size, 0, none⟩) (by dsimp only; omega)).trans c1, ((KK31.out.alloc KK31.out.size _).cell (p := ⟨w.heap.size, 1, none⟩) (by dsimp only; omega)).trans c2, (KK31.out.alloc KK31.out.size _)⟩
          clear hK K
          try simp only [Act.put, List.setIfInBounds_toArray, List.set_cons_zero, List.set_cons_succ]
          have KK50 := Lib.hid (KK31.out.alloc KK31.out.size (Obj.cells #[.slice none 0 0, .slice none 0 0] 25))
          have EE51 := Lib.hid (EE32.out.alloc (Obj.cells #[.slice none 0 0, .slice none 0 0] 25))
          have NN52 := Lib.hid (blk_alloc NN33.out (Obj.cells #[.slice none 0 0, .slice none 0 0] 25))
          have PP53 := Lib.hid (blk_new ((w3.drew.alloc (Obj.cells #[] 44)).alloc (Obj.cells #[.int .i64 0, .int .i64 0] 44)) (Obj.cells #[.slice none 0 0, .slice none 0 0] 25) (w3.heap.size + 1 + 1) (by first | (simp; done) | (simp; omega) | omega))
          refine wpAnyH_ready (rs := [5]) (by kernel_rfl) (by simp) ?_
          refine AllReadyH.cons (o := ⟨some 34, _, _, _, _, _⟩) rfl (fun K hK => ?_) ?_
          · refine step_append_full (by rfl) _ _ (by rfl) w3.heap.size i1 _ 2 16 und_pt und_pt h1z h1a h1b h1c rfl (by omega) (.slice (some ⟨w3.heap.size, 0, none⟩) 0 0) 0 [] (by rfl) EE51.out B m cp (flatP ps) (by rfl) FLP (cor_news (HIN3.out.rp.step KK50.out)) (flatP_one ps) (HIN3.out.np) (by simp [maxLen]; omega) (by omega) (KK50.out.size) ?_
            intro aB cB wB apB
            simp only [Nat.zero_add, List.nil_append] at apB ⊢
            have KK54 := Lib.hid (KK50.out.grown apB.grew KK50.out.size (fun k e => (EE51.out.lt k e).1))
            have zB : w3.heap.size + 1 + 1 + 1 ≤ wB.heap.size := by have h := apB.grew.size; (try simp at h); omega
            have NN55 := Lib.hid ((apB.grew.block (w3.heap.size + 1) (by first | (simp; done) | (simp; omega) | omega) (by first | (simp [Value.ownBlock]; done) | (simp [Value.ownBlock]; omega))).trans NN52.out)
            have PP56 := Lib.hid ((apB.grew.block (w3.heap.size + 1 + 1) (by first | (simp; done) | (simp; omega) | omega) (by first | (simp [Value.ownBlock]; done) | (simp [Value.ownBlock]; omega))).trans PP53.out)
            have EE57 := Lib.hid apB.row
            refine hK.out _ _ ?_ (fun hHeld => ?_)
            · exact ⟨(KK54.out.cell (p := ⟨w.heap.size, 0, none⟩) (by dsimp only; omega)).trans c1, (KK54.out.cell (p := ⟨w.heap.size, 1, none⟩) (by dsimp only; omega)).trans c2, KK54.out⟩
            clear hK K
            try simp only [Act.put, List.setIfInBounds_toArray, List.set_cons_zero, List.set_cons_succ]
            refine wpAnyH_ready (rs := [8]) (by kernel_rfl) (by simp) ?_
            refine AllReadyH.cons (o := ⟨some 37, _, _, _, _, _⟩) rfl (fun K hK => ?_) ?_
            · refine step_append_full (by rfl) _ _ (by rfl) w3.heap.size i1 _ 2 16 und_pt und_pt h1z h1a h1b h1c rfl (by omega) (.slice aB (m) cB) (m) (flatP ps) (by rfl) EE57.out (some ⟨w3.heap.size + 1, 0, none⟩) 1 1 [.int .i64 0, .int .i64 0] (by rfl) (by rfl) (fun j u hu => ⟨_, rfl, World.news_of_block (cs := #[.int .i64 0, .int .i64 0]) (t := 44) (fr := (0, 0)) NN55.out j u hu⟩) (by simp [Value.oneCell']) (by simp) (by simp [maxLen]; omega) (by omega) (KK54.out.size) ?_
              intro aD cD wD apD
              have KK58 := Lib.hid (KK54.out.grown apD.grew KK54.out.size (fun k e => (EE57.out.lt k e).1))
              have zD : wB.heap.size ≤ wD.heap.size := by have h := apD.grew.size; (try simp at h); omega
              have PP59 := Lib.hid ((apD.grew.block (w3.heap.size + 1 + 1) (by first | (simp; done) | (simp; omega) | omega) (fun e => by first | (have h := (apB.row.lt _ e.symm).2; omega) | (rcases apB.own with k | k <;> (rw [k] at e; simp [Value.ownBlock] at e; try omega)))).trans PP56.out)
              have EE60 := Lib.hid apD.row
              refine hK.out _ _ ?_ (fun hHeld => ?_)
              · exact ⟨(KK58.out.cell (p := ⟨w.heap.size, 0, none⟩) (by dsimp only; omega)).trans c1, (KK58.out.cell (p := ⟨w.heap.size, 1, none⟩) (by dsimp only; omega)).trans c2, KK58.out⟩
              clear hK K
              try simp only [Act.put, List.setIfInBounds_toArray, List.set_cons_zero, List.set_cons_succ]
              refine wpAnyH_take (i := 9) (oi := ⟨some 38, _, _, _, _, _⟩) (v := ?_) rfl (by kernel_rfl) (by kernel_rfl) (by kernel_rfl) (fun _ _ _ h => h) (Or.inl ⟨by rfl, ?_⟩) (by assumption) ?_
              rotate_left
              · (intro w hSw; (try dsimp only at hSw); go_simp; (try with_reducible rfl))
              try simp only [Act.put, List.setIfInBounds_toArray, List.set_cons_zero, List.set_cons_succ]
              refine wpAnyH_ready (rs := [11]) (by kernel_rfl) (by simp) ?_
              refine AllReadyH.cons (o := ⟨none, _, _, _, _, _⟩) rfl (fun K hK => ?_) ?_
              · have q0 := blk_cell PP59.out (j := 0) (u := .slice none 0 0) rfl
                have q1 := blk_cell PP59.out (j := 1) (u := .slice none 0 0) rfl
                obtain ⟨q0, f0⟩ := q0
                obtain ⟨q1, f1⟩ := q1
                go_simp
                refine hK.out _ _ ?_ (fun hHeld => ?_)
                · exact ⟨(((KK58.out.setCell (p := ⟨w3.heap.size + 1 + 1, 0, none⟩) (by dsimp only; omega) _).setCell (p := ⟨w3.heap.size + 1 + 1, 1, none⟩) (by dsimp only; omega) _).cell (p := ⟨w.heap.size, 0, none⟩) (by dsimp only; omega)).trans c1, (((KK58.out.setCell (p := ⟨w3.heap.size + 1 + 1, 0, none⟩) (by dsimp only; omega) _).setCell (p := ⟨w3.heap.size + 1 + 1, 1, none⟩) (by dsimp only; omega) _).cell (p := ⟨w.heap.size, 1, none⟩) (by dsimp only; omega)).trans c2, ((KK58.out.setCell (p := ⟨w3.heap.size + 1 + 1, 0, none⟩) (by dsimp only; omega) _).setCell (p := ⟨w3.heap.size + 1 + 1, 1, none⟩) (by dsimp only; omega) _)⟩
                clear hK K
                try simp only [Act.put, List.setIfInBounds_toArray, List.set_cons_zero, List.set_cons_succ]
                refine wpAnyH_done (by kernel_rfl) ?_ _
                go_wp2_with fail
                go_meet
                have hrow := EE60.out
                rw [← FL1.out] at hrow
                obtain ⟨_, _, hvD, _, hcD, _⟩ := cor_of_row hrow
                simp only [Value.slice.injEq] at hvD
                obtain ⟨rfl, _, rfl⟩ := hvD
                exact box_out (n) (m + 1) HN.out HM1.out PP59.out ((HIN3.out.rv.step KK58.out).more KK58.out.size) hcD (HIN3.out.rv.lt (by omega)) (own_ne (fun e => by cases apD.own with | inl k => (rw [k] at e; first | (have h := (apB.row.lt _ e).2; omega) | (rcases apB.own with k2 | k2 <;> (rw [k2] at e; simp [Value.ownBlock] at e; try omega))) | inr k => (first | (have h := (apD.row.lt _ e).2; omega) | (rw [k] at e; simp [Value.ownBlock] at e; try omega)))) (by omega) KK58.out
              exact AllReadyH.nil
            exact AllReadyH.nil
          exact AllReadyH.nil
        exact AllReadyH.nil
      refine AllReadyH.cons (o := ⟨some 5, _, _, _, _, _⟩) rfl (fun K hK => ?_) ?_
      · go_simp
        refine hK.out _ _ ?_ (fun hHeld => ?_)
        · exact ⟨((KK1.out.alloc KK1.out.size _).cell (p := ⟨w.heap.size, 0, none⟩) (by dsimp only; omega)).trans c1, ((KK1.out.alloc KK1.out.size _).cell (p := ⟨w.heap.size, 1, none⟩) (by dsimp only; omega)).trans c2, (KK1.out.alloc KK1.out.size _)⟩
        clear hK K
        try simp only [Act.put, List.setIfInBounds_toArray, List.set_cons_zero, List.set_cons_succ]
        have KK61 := Lib.hid (KK1.out.alloc KK1.out.size (Obj.cells #[.slice none 0 0, .slice none 0 0] 25))
        have EE62 := Lib.hid (EE2.out.alloc (Obj.cells #[.slice none 0 0, .slice none 0 0] 25))
        have PP63 := Lib.hid (blk_new (w3.drew.alloc (Obj.cells #[] 44)) (Obj.cells #[.slice none 0 0, .slice none 0 0] 25) (w3.heap.size + 1) (by first | (simp; done) | (simp; omega) | omega))
        refine wpAnyH_ready (rs := [5, 7]) (by kernel_rfl) (by simp) ?_
        refine AllReadyH.cons (o := ⟨some 34, _, _, _, _, _⟩) rfl (fun K hK => ?_) ?_
        · refine step_append_full (by rfl) _ _ (by rfl) w3.heap.size i1 _ 2 16 und_pt und_pt h1z h1a h1b h1c rfl (by omega) (.slice (some ⟨w3.heap.size, 0, none⟩) 0 0) 0 [] (by rfl) EE62.out B m cp (flatP ps) (by rfl) FLP (cor_news (HIN3.out.rp.step KK61.out)) (flatP_one ps) (HIN3.out.np) (by simp [maxLen]; omega) (by omega) (KK61.out.size) ?_
          intro aB cB wB apB
          simp only [Nat.zero_add, List.nil_append] at apB ⊢
          have KK64 := Lib.hid (KK61.out.grown apB.grew KK61.out.size (fun k e => (EE62.out.lt k e).1))
          have zB : w3.heap.size + 1 + 1 ≤ wB.heap.size := by have h := apB.grew.size; (try simp at h); omega
          have PP65 := Lib.hid ((apB.grew.block (w3.heap.size + 1) (by first | (simp; done) | (simp; omega) | omega) (by first | (simp [Value.ownBlock]; done) | (simp [Value.ownBlock]; omega))).trans PP63.out)
          have EE66 := Lib.hid apB.row
          refine hK.out _ _ ?_ (fun hHeld => ?_)
          · exact ⟨(KK64.out.cell (p := ⟨w.heap.size, 0, none⟩) (by dsimp only; omega)).trans c1, (KK64.out.cell (p := ⟨w.heap.size, 1, none⟩) (by dsimp only; omega)).trans c2, KK64.out⟩
          clear hK K
          try simp only [Act.put, List.setIfInBounds_toArray, List.set_cons_zero, List.set_cons_succ]
          refine wpAnyH_ready (rs := [7]) (by kernel_rfl) (by simp) ?_
          refine AllReadyH.cons (o := ⟨some 36, _, _, _, _, _⟩) rfl (fun K hK => ?_) ?_
          · go_simp
            refine hK.out _ _ ?_ (fun hHeld => ?_)
            · exact ⟨((KK64.out.alloc KK64.out.size _).cell (p := ⟨w.heap.size, 0, none⟩) (by dsimp only; omega)).trans c1, ((KK64.out.alloc KK64.out.size _).cell (p := ⟨w.heap.size, 1, none⟩) (by dsimp only; omega)).trans c2, (KK64.out.alloc KK64.out.size _)⟩
            clear hK K
            try simp only [Act.put, List.setIfInBounds_toArray, List.set_cons_zero, List.set_cons_succ]
            have KK67 := Lib.hid (KK64.out.alloc KK64.out.size (Obj.cells #[.int .i64 0, .int .i64 0] 44))
            have EE68 := Lib.hid (EE66.out.alloc (Obj.cells #[.int .i64 0, .int .i64 0] 44))
            have PP69 := Lib.hid (blk_alloc PP65.out (Obj.cells #[.int .i64 0, .int .i64 0] 44))
            have NN70 := Lib.hid (blk_new wB (Obj.cells #[.int .i64 0, .int .i64 0] 44) (wB.heap.size) (by first | (simp; done) | (simp; omega) | omega))
            refine wpAnyH_ready (rs := [8]) (by kernel_rfl) (by simp) ?_
            refine AllReadyH.cons (o := ⟨some 37, _, _, _, _, _⟩) rfl (fun K hK => ?_) ?_
            · refine step_append_full (by rfl) _ _ (by rfl) w3.heap.size i1 _ 2 16 und_pt und_pt h1z h1a h1b h1c rfl (by omega) (.slice aB (m) cB) (m) (flatP ps) (by rfl) EE68.out (some ⟨wB.heap.size, 0, none⟩) 1 1 [.int .i64 0, .int .i64 0] (by rfl) (by rfl) (fun j u hu => ⟨_, rfl, World.news_of_block (cs := #[.int .i64 0, .int .i64 0]) (t := 44) (fr := (0, 0)) NN70.out j u hu⟩) (by simp [Value.oneCell']) (by simp) (by simp [maxLen]; omega) (by omega) (KK67.out.size) ?_
              intro aD cD wD apD
              have KK71 := Lib.hid (KK67.out.grown apD.grew KK67.out.size (fun k e => (EE68.out.lt k e).1))
              have zD : wB.heap.size + 1 ≤ wD.heap.size := by have h := apD.grew.size; (try simp at h); omega
              have PP72 := Lib.hid ((apD.grew.block (w3.heap.size + 1) (by first | (simp; done) | (simp; omega) | omega) (fun e => by first | (have h := (apB.row.lt _ e.symm).2; omega) | (rcases apB.own with k | k <;> (rw [k] at e; simp [Value.ownBlock] at e; try omega)))).trans PP69.out)
              have EE73 := Lib.hid apD.row
              refine hK.out _ _ ?_ (fun hHeld => ?_)
              · exact ⟨(KK71.out.cell (p := ⟨w.heap.size, 0, none⟩) (by dsimp only; omega)).trans c1, (KK71.out.cell (p := ⟨w.heap.size, 1, none⟩) (by dsimp only; omega)).trans c2, KK71.out⟩
              clear hK K
              try simp only [Act.put, List.setIfInBounds_toArray, List.set_cons_zero, List.set_cons_succ]
              refine wpAnyH_take (i := 9) (oi := ⟨some 38, _, _, _, _, _⟩) (v := ?_) rfl (by kernel_rfl) (by kernel_rfl) (by kernel_rfl) (fun _ _ _ h => h) (Or.inl ⟨by rfl, ?_⟩) (by assumption) ?_
              rotate_left
              · (intro w hSw; (try dsimp only at hSw); go_simp; (try with_reducible rfl))
              try simp only [Act.put, List.setIfInBounds_toArray, List.set_cons_zero, List.set_cons_succ]
              refine wpAnyH_ready (rs := [11]) (by kernel_rfl) (by simp) ?_
              refine AllReadyH.cons (o := ⟨none, _, _, _, _, _⟩) rfl (fun K hK => ?_) ?_
              · have q0 := blk_cell PP72.out (j := 0) (u := .slice none 0 0) rfl
                have q1 := blk_cell PP72.out (j := 1) (u := .slice none 0 0) rfl
                obtain ⟨q0, f0⟩ := q0
                obtain ⟨q1, f1⟩ := q1
                go_simp
                refine hK.out _ _ ?_ (fun hHeld => ?_)
                · exact ⟨(((KK71.out.setCell (p := ⟨w3.heap.size + 1, 0, none⟩) (by dsimp only; omega) _).setCell (p := ⟨w3.heap.size + 1, 1, none⟩) (by dsimp only; omega) _).cell (p := ⟨w.heap.size, 0, none⟩) (by dsimp only; omega)).trans c1, (((KK71.out.setCell (p := ⟨w3.heap.size + 1, 0, none⟩) (by dsimp only; omega) _).setCell (p := ⟨w3.heap.size + 1, 1, none⟩) (by dsimp only; omega) _).cell (p := ⟨w.heap.size, 1, none⟩) (by dsimp only; omega)).trans c2, ((KK71.out.setCell (p := ⟨w3.heap.size + 1, 0, none⟩) (by dsimp only; omega) _).setCell (p := ⟨w3.heap.size + 1, 1, none⟩) (by dsimp only; omega) _)⟩
                clear hK K
                try simp only [Act.put, List.setIfInBounds_toArray, List.set_cons_zero, List.set_cons_succ]
                refine wpAnyH_done (by kernel_rfl) ?_ _
                go_wp2_with fail
                go_meet
                have hrow := EE73.out
                rw [← FL1.out] at hrow
                obtain ⟨_, _, hvD, _, hcD, _⟩ := cor_of_row hrow
                simp only [Value.slice.injEq] at hvD
                obtain ⟨rfl, _, rfl⟩ := hvD
                exact box_out (n) (m + 1) HN.out HM1.out PP72.out ((HIN3.out.rv.step KK71.out).more KK71.out.size) hcD (HIN3.out.rv.lt (by omega)) (own_ne (fun e => by cases apD.own with | inl k => (rw [k] at e; first | (have h := (apB.row.lt _ e).2; omega) | (rcases apB.own with k2 | k2 <;> (rw [k2] at e; simp [Value.ownBlock] at e; try omega))) | inr k => (first | (have h := (apD.row.lt _ e).2; omega) | (rw [k] at e; simp [Value.ownBlock] at e; try omega)))) (by omega) KK71.out
              exact AllReadyH.nil
            exact AllReadyH.nil
          exact AllReadyH.nil
        refine AllReadyH.cons (o := ⟨some 36, _, _, _, _, _⟩) rfl (fun K hK => ?_) ?_
        · go_simp
          refine hK.out _ _ ?_ (fun hHeld => ?_)
          · exact ⟨((KK61.out.alloc KK61.out.size _).cell (p := ⟨w.heap.size, 0, none⟩) (by dsimp only; omega)).trans c1, ((KK61.out.alloc KK61.out.size _).cell (p := ⟨w.heap.size, 1, none⟩) (by dsimp only; omega)).trans c2, (KK61.out.alloc KK61.out.size _)⟩
          clear hK K
          try simp only [Act.put, List.setIfInBounds_toArray, List.set_cons_zero, List.set_cons_succ]
          have KK74 := Lib.hid (KK61.out.alloc KK61.out.size (Obj.cells #[.int .i64 0, .int .i64 0] 44))
          have EE75 := Lib.hid (EE62.out.alloc (Obj.cells #[.int .i64 0, .int .i64 0] 44))
          have PP76 := Lib.hid (blk_alloc PP63.out (Obj.cells #[.int .i64 0, .int .i64 0] 44))
          have NN77 := Lib.hid (blk_new ((w3.drew.alloc (Obj.cells #[] 44)).alloc (Obj.cells #[.slice none 0 0, .slice none 0 0] 25)) (Obj.cells #[.int .i64 0, .int .i64 0] 44) (w3.heap.size + 1 + 1) (by first | (simp; done) | (simp; omega) | omega))
          refine wpAnyH_ready (rs := [5]) (by kernel_rfl) (by simp) ?_
          refine AllReadyH.cons (o := ⟨some 34, _, _, _, _, _⟩) rfl (fun K hK => ?_) ?_
          · refine step_append_full (by rfl) _ _ (by rfl) w3.heap.size i1 _ 2 16 und_pt und_pt h1z h1a h1b h1c rfl (by omega) (.slice (some ⟨w3.heap.size, 0, none⟩) 0 0) 0 [] (by rfl) EE75.out B m cp (flatP ps) (by rfl) FLP (cor_news (HIN3.out.rp.step KK74.out)) (flatP_one ps) (HIN3.out.np) (by simp [maxLen]; omega) (by omega) (KK74.out.size) ?_
            intro aB cB wB apB
            simp only [Nat.zero_add, List.nil_append] at apB ⊢
            have KK78 := Lib.hid (KK74.out.grown apB.grew KK74.out.size (fun k e => (EE75.out.lt k e).1))
            have zB : w3.heap.size + 1 + 1 + 1 ≤ wB.heap.size := by have h := apB.grew.size; (try simp at h); omega
            have NN79 := Lib.hid ((apB.grew.block (w3.heap.size + 1 + 1) (by first | (simp; done) | (simp; omega) | omega) (by first | (simp [Value.ownBlock]; done) | (simp [Value.ownBlock]; omega))).trans NN77.out)
            have PP80 := Lib.hid ((apB.grew.block (w3.heap.size + 1) (by first | (simp; done) | (simp; omega) | omega) (by first | (simp [Value.ownBlock]; done) | (simp [Value.ownBlock]; omega))).trans PP76.out)
            have EE81 := Lib.hid apB.row
            refine hK.out _ _ ?_ (fun hHeld => ?_)
            · exact ⟨(KK78.out.cell (p := ⟨w.heap.size, 0, none⟩) (by dsimp only; omega)).trans c1, (KK78.out.cell (p := ⟨w.heap.size, 1, none⟩) (by dsimp only; omega)).trans c2, KK78.out⟩
            clear hK K
            try simp only [Act.put, List.setIfInBounds_toArray, List.set_cons_zero, List.set_cons_succ]
            refine wpAnyH_ready (rs := [8]) (by kernel_rfl) (by simp) ?_
            refine AllReadyH.cons (o := ⟨some 37, _, _, _, _, _⟩) rfl (fun K hK => ?_) ?_
            · refine step_append_full (by rfl) _ _ (by rfl) w3.heap.size i1 _ 2 16 und_pt und_pt h1z h1a h1b h1c rfl (by omega) (.slice aB (m) cB) (m) (flatP ps) (by rfl) EE81.out (some ⟨w3.heap.size + 1 + 1, 0, none⟩) 1 1 [.int .i64 0, .int .i64 0] (by rfl) (by rfl) (fun j u hu => ⟨_, rfl, World.news_of_block (cs := #[.int .i64 0, .int .i64 0]) (t := 44) (fr := (0, 0)) NN79.out j u hu⟩) (by simp [Value.oneCell']) (by simp) (by simp [maxLen]; omega) (by omega) (KK78.out.size) ?_
              intro aD cD wD apD
              have KK82 := Lib.hid (KK78.out.grown apD.grew KK78.out.size (fun k e => (EE81.out.lt k e).1))
              have zD : wB.heap.size ≤ wD.heap.size := by have h := apD.grew.size; (try simp at h); omega
              have PP83 := Lib.hid ((apD.grew.block (w3.heap.size + 1) (by first | (simp; done) | (simp; omega) | omega) (fun e => by first | (have h := (apB.row.lt _ e.symm).2; omega) | (rcases apB.own with k | k <;> (rw [k] at e; simp [Value.ownBlock] at e; try omega)))).trans PP80.out)
              have EE84 := Lib.hid apD.row
              refine hK.out _ _ ?_ (fun hHeld => ?_)
              · exact ⟨(KK82.out.cell (p := ⟨w.heap.size, 0, none⟩) (by dsimp only; omega)).trans c1, (KK82.out.cell (p := ⟨w.heap.size, 1, none⟩) (by dsimp only; omega)).trans c2, KK82.out⟩
              clear hK K
              try simp only [Act.put, List.setIfInBounds_toArray, List.set_cons_zero, List.set_cons_succ]
              refine wpAnyH_take (i := 9) (oi := ⟨some 38, _, _, _, _, _⟩) (v := ?_) rfl (by kernel_rfl) (by kernel_rfl) (by kernel_rfl) (fun _ _ _ h => h) (Or.inl ⟨by rfl, ?_⟩) (by assumption) ?_
              rotate_left
              · (intro w hSw; (try dsimp only at hSw); go_simp; (try with_reducible rfl))
              try simp only [Act.put, List.setIfInBounds_toArray, List.set_cons_zero, List.set_cons_succ]
              refine wpAnyH_ready (rs := [11]) (by kernel_rfl) (by simp) ?_
              refine AllReadyH.cons (o := ⟨none, _, _, _, _, _⟩) rfl (fun K hK => ?_) ?_
              · have q0 := blk_cell PP83.out (j := 0) (u := .slice none 0 0) rfl
                have q1 := blk_cell PP83.out (j := 1) (u := .slice none 0 0) rfl
                obtain ⟨q0, f0⟩ := q0
                obtain ⟨q1, f1⟩ := q1
                go_simp
                refine hK.out _ _ ?_ (fun hHeld => ?_)
                · exact ⟨(((KK82.out.setCell (p := ⟨w3.heap.size + 1, 0, none⟩) (by dsimp only; omega) _).setCell (p := ⟨w3.heap.size + 1, 1, none⟩) (by dsimp only; omega) _).cell (p := ⟨w.heap.size, 0, none⟩) (by dsimp only; omega)).trans c1, (((KK82.out.setCell (p := ⟨w3.heap.size + 1, 0, none⟩) (by dsimp only; omega) _).setCell (p := ⟨w3.heap.size + 1, 1, none⟩) (by dsimp only; omega) _).cell (p := ⟨w.heap.size, 1, none⟩) (by dsimp only; omega)).trans c2, ((KK82.out.setCell (p := ⟨w3.heap.size + 1, 0, none⟩) (by dsimp only; omega) _).setCell (p := ⟨w3.heap.size + 1, 1, none⟩) (by dsimp only; omega) _)⟩
                clear hK K
                try simp only [Act.put, List.setIfInBounds_toArray, List.set_cons_zero, List.set_cons_succ]
                refine wpAnyH_done (by kernel_rfl) ?_ _
                go_wp2_with fail
                go_meet
                have hrow := EE84.out
                rw [← FL1.out] at hrow
                obtain ⟨_, _, hvD, _, hcD, _⟩ := cor_of_row hrow
                simp only [Value.slice.injEq] at hvD
                obtain ⟨rfl, _, rfl⟩ := hvD
                exact box_out (n) (m + 1) HN.out HM1.out PP83.out ((HIN3.out.rv.step KK82.out).more KK82.out.size) hcD (HIN3.out.rv.lt (by omega)) (own_ne (fun e => by cases apD.own with | inl k => (rw [k] at e; first | (have h := (apB.row.lt _ e).2; omega) | (rcases apB.own with k2 | k2 <;> (rw [k2] at e; simp [Value.ownBlock] at e; try omega))) | inr k => (first | (have h := (apD.row.lt _ e).2; omega) | (rw [k] at e; simp [Value.ownBlock] at e; try omega)))) (by omega) KK82.out
              exact AllReadyH.nil
            exact AllReadyH.nil
          exact AllReadyH.nil
        exact AllReadyH.nil
      exact AllReadyH.nil
    refine AllReadyH.cons (o := ⟨some 36, _, _, _, _, _⟩) rfl (fun K hK => ?_) ?_
    · go_simp
      refine hK.out _ _ ?_ (fun hHeld => ?_)
      · exact ⟨((KK0.out.alloc KK0.out.size _).cell (p := ⟨w.heap.size, 0, none⟩) (by dsimp only; omega)).trans c1, ((KK0.out.alloc KK0.out.size _).cell (p := ⟨w.heap.size, 1, none⟩) (by dsimp only; omega)).trans c2, (KK0.out.alloc KK0.out.size _)⟩
      clear hK K
      try simp only [Act.put, List.setIfInBounds_toArray, List.set_cons_zero, List.set_cons_succ]
      have KK85 := Lib.hid (KK0.out.alloc KK0.out.size (Obj.cells #[.int .i64 0, .int .i64 0] 44))
      have NN86 := Lib.hid (blk_new w3.drew (Obj.cells #[.int .i64 0, .int .i64 0] 44) (w3.heap.size) (by first | (simp; done) | (simp; omega) | omega))
      refine wpAnyH_ready (rs := [2, 10]) (by kernel_rfl) (by simp) ?_
      refine AllReadyH.cons (o := ⟨some 31, _, _, _, _, _⟩) rfl (fun K hK => ?_) ?_
      · go_simp
        refine hK.out _ _ ?_ (fun hHeld => ?_)
        · exact ⟨((KK85.out.alloc KK85.out.size _).cell (p := ⟨w.heap.size, 0, none⟩) (by dsimp only; omega)).trans c1, ((KK85.out.alloc KK85.out.size _).cell (p := ⟨w.heap.size, 1, none⟩) (by dsimp only; omega)).trans c2, (KK85.out.alloc KK85.out.size _)⟩
        clear hK K
        try simp only [Act.put, List.setIfInBounds_toArray, List.set_cons_zero, List.set_cons_succ]
        have KK87 := Lib.hid (KK85.out.alloc KK85.out.size (Obj.cells #[] 44))
        have NN88 := Lib.hid (blk_alloc NN86.out (Obj.cells #[] 44))
        have EE89 := Lib.hid (own_made' (w3.drew.alloc (Obj.cells #[.int .i64 0, .int .i64 0] 44)) 44 (w3.heap.size) 2 (w3.heap.size + 1) (by first | (simp; done) | (simp; omega) | omega) KK85.out.size)
        refine wpAnyH_ready (rs := [5, 10]) (by kernel_rfl) (by simp) ?_
        refine AllReadyH.cons (o := ⟨some 34, _, _, _, _, _⟩) rfl (fun K hK => ?_) ?_
        · refine step_append_full (by rfl) _ _ (by rfl) w3.heap.size i1 _ 2 16 und_pt und_pt h1z h1a h1b h1c rfl (by omega) (.slice (some ⟨w3.heap.size + 1, 0, none⟩) 0 0) 0 [] (by rfl) EE89.out B m cp (flatP ps) (by rfl) FLP (cor_news (HIN3.out.rp.step KK87.out)) (flatP_one ps) (HIN3.out.np) (by simp [maxLen]; omega) (by omega) (KK87.out.size) ?_
          intro aB cB wB apB
          simp only [Nat.zero_add, List.nil_append] at apB ⊢
          have KK90 := Lib.hid (KK87.out.grown apB.grew KK87.out.size (fun k e => (EE89.out.lt k e).1))
          have zB : w3.heap.size + 1 + 1 ≤ wB.heap.size := by have h := apB.grew.size; (try simp at h); omega
          have NN91 := Lib.hid ((apB.grew.block (w3.heap.size) (by first | (simp; done) | (simp; omega) | omega) (by first | (simp [Value.ownBlock]; done) | (simp [Value.ownBlock]; omega))).trans NN88.out)
          have EE92 := Lib.hid apB.row
          refine hK.out _ _ ?_ (fun hHeld => ?_)
          · exact ⟨(KK90.out.cell (p := ⟨w.heap.size, 0, none⟩) (by dsimp only; omega)).trans c1, (KK90.out.cell (p := ⟨w.heap.size, 1, none⟩) (by dsimp only; omega)).trans c2, KK90.out⟩
          clear hK K
          try simp only [Act.put, List.setIfInBounds_toArray, List.set_cons_zero, List.set_cons_succ]
          refine wpAnyH_ready (rs := [8, 10]) (by kernel_rfl) (by simp) ?_
          refine AllReadyH.cons (o := ⟨some 37, _, _, _, _, _⟩) rfl (fun K hK => ?_) ?_
          · refine step_append_full (by rfl) _ _ (by rfl) w3.heap.size i1 _ 2 16 und_pt und_pt h1z h1a h1b h1c rfl (by omega) (.slice aB (m) cB) (m) (flatP ps) (by rfl) EE92.out (some ⟨w3.heap.size, 0, none⟩) 1 1 [.int .i64 0, .int .i64 0] (by rfl) (by rfl) (fun j u hu => ⟨_, rfl, World.news_of_block (cs := #[.int .i64 0, .int .i64 0]) (t := 44) (fr := (0, 0)) NN91.out j u hu⟩) (by simp [Value.oneCell']) (by simp) (by simp [maxLen]; omega) (by omega) (KK90.out.size) ?_
            intro aD cD wD apD
            have KK93 := Lib.hid (KK90.out.grown apD.grew KK90.out.size (fun k e => (EE92.out.lt k e).1))
            have zD : wB.heap.size ≤ wD.heap.size := by have h := apD.grew.size; (try simp at h); omega
            have EE94 := Lib.hid apD.row
            refine hK.out _ _ ?_ (fun hHeld => ?_)
            · exact ⟨(KK93.out.cell (p := ⟨w.heap.size, 0, none⟩) (by dsimp only; omega)).trans c1, (KK93.out.cell (p := ⟨w.heap.size, 1, none⟩) (by dsimp only; omega)).trans c2, KK93.out⟩
            clear hK K
            try simp only [Act.put, List.setIfInBounds_toArray, List.set_cons_zero, List.set_cons_succ]
            refine wpAnyH_take (i := 9) (oi := ⟨some 38, _, _, _, _, _⟩) (v := ?_) rfl (by kernel_rfl) (by kernel_rfl) (by kernel_rfl) (fun _ _ _ h => h) (Or.inl ⟨by rfl, ?_⟩) (by assumption) ?_
            rotate_left
            · (intro w hSw; (try dsimp only at hSw); go_simp; (try with_reducible rfl))
            try simp only [Act.put, List.setIfInBounds_toArray, List.set_cons_zero, List.set_cons_succ]
            refine wpAnyH_ready (rs := [10]) (by kernel_rfl) (by simp) ?_
            refine AllReadyH.cons (o := ⟨some 5, _, _, _, _, _⟩) rfl (fun K hK => ?_) ?_
            · go_simp
              refine hK.out _ _ ?_ (fun hHeld => ?_)
              · exact ⟨((KK93.out.alloc KK93.out.size _).cell (p := ⟨w.heap.size, 0, none⟩) (by dsimp only; omega)).trans c1, ((KK93.out.alloc KK93.out.size _).cell (p := ⟨w.heap.size, 1, none⟩) (by dsimp only; omega)).trans c2, (KK93.out.alloc KK93.out.size _)⟩
              clear hK K
              try simp only [Act.put, List.setIfInBounds_toArray, List.set_cons_zero, List.set_cons_succ]
              have KK95 := Lib.hid (KK93.out.alloc KK93.out.size (Obj.cells #[.slice none 0 0, .slice none 0 0] 25))
              have EE96 := Lib.hid (EE94.out.alloc (Obj.cells #[.slice none 0 0, .slice none 0 0] 25))
              have NN97 := Lib.hid (blk_alloc NN91.out (Obj.cells #[.slice none 0 0, .slice none 0 0] 25))
              have PP98 := Lib.hid (blk_new wD (Obj.cells #[.slice none 0 0, .slice none 0 0] 25) (wD.heap.size) (by first | (simp; done) | (simp; omega) | omega))
              refine wpAnyH_ready (rs := [11]) (by kernel_rfl) (by simp) ?_
              refine AllReadyH.cons (o := ⟨none, _, _, _, _, _⟩) rfl (fun K hK => ?_) ?_
              · have q0 := blk_cell PP98.out (j := 0) (u := .slice none 0 0) rfl
                have q1 := blk_cell PP98.out (j := 1) (u := .slice none 0 0) rfl
                obtain ⟨q0, f0⟩ := q0
                obtain ⟨q1, f1⟩ := q1
                go_simp
                refine hK.out _ _ ?_ (fun hHeld => ?_)
                · exact ⟨((KK93.out.alloc KK93.out.size _).cell (p := ⟨w.heap.size, 0, none⟩) (by dsimp only; omega)).trans c1, ((KK93.out.alloc KK93.out.size _).cell (p := ⟨w.heap.size, 1, none⟩) (by dsimp only; omega)).trans c2, (KK93.out.alloc KK93.out.size _)⟩
                clear hK K
                try simp only [Act.put, List.setIfInBounds_toArray, List.set_cons_zero, List.set_cons_succ]
                refine wpAnyH_done (by kernel_rfl) ?_ _
                go_wp2_with fail
                go_meet
                have hrow := EE94.out
                rw [← FL1.out] at hrow
                obtain ⟨_, _, hvD, _, hcD, _⟩ := cor_of_row hrow
                simp only [Value.slice.injEq] at hvD
                obtain ⟨rfl, _, rfl⟩ := hvD
                exact box_new (n) (m + 1) HN.out HM1.out ((HIN3.out.rv.step KK93.out).more KK93.out.size) hcD ((by first | (simp; done) | (simp; omega) | omega)) (HIN3.out.rv.lt (by omega)) (own_ne (fun e => by cases apD.own with | inl k => (rw [k] at e; first | (have h := (apB.row.lt _ e).2; omega) | (rcases apB.own with k2 | k2 <;> (rw [k2] at e; simp [Value.ownBlock] at e; try omega))) | inr k => (first | (have h := (apD.row.lt _ e).2; omega) | (rw [k] at e; simp [Value.ownBlock] at e; try omega)))) KK93.out.size KK93.out
              exact AllReadyH.nil
            exact AllReadyH.nil
          refine AllReadyH.cons (o := ⟨some 5, _, _, _, _, _⟩) rfl (fun K hK => ?_) ?_
          · go_simp
            refine hK.out _ _ ?_ (fun hHeld => ?_)
            · exact ⟨((KK90.out.alloc KK90.out.size _).cell (p := ⟨w.heap.size, 0, none⟩) (by dsimp only; omega)).trans c1, ((KK90.out.alloc KK90.out.size _).cell (p := ⟨w.heap.size, 1, none⟩) (by dsimp only; omega)).trans c2, (KK90.out.alloc KK90.out.size _)⟩
            clear hK K
            try simp only [Act.put, List.setIfInBounds_toArray, List.set_cons_zero, List.set_cons_succ]
            have KK99 := Lib.hid (KK90.out.alloc KK90.out.size (Obj.cells #[.slice none 0 0, .slice none 0 0] 25))
            have EE100 := Lib.hid (EE92.out.alloc (Obj.cells #[.slice none 0 0, .slice none 0 0] 25))
            have NN101 := Lib.hid (blk_alloc NN91.out (Obj.cells #[.slice none 0 0, .slice none 0 0] 25))
            have PP102 := Lib.hid (blk_new wB (Obj.cells #[.slice none 0 0, .slice none 0 0] 25) (wB.heap.size) (by first | (simp; done) | (simp; omega) | omega))
            refine wpAnyH_ready (rs := [8]) (by kernel_rfl) (by simp) ?_
            refine AllReadyH.cons (o := ⟨some 37, _, _, _, _, _⟩) rfl (fun K hK => ?_) ?_
            · refine step_append_full (by rfl) _ _ (by rfl) w3.heap.size i1 _ 2 16 und_pt und_pt h1z h1a h1b h1c rfl (by omega) (.slice aB (m) cB) (m) (flatP ps) (by rfl) EE100.out (some ⟨w3.heap.size, 0, none⟩) 1 1 [.int .i64 0, .int .i64 0] (by rfl) (by rfl) (fun j u hu => ⟨_, rfl, World.news_of_block (cs := #[.int .i64 0, .int .i64 0]) (t := 44) (fr := (0, 0)) NN101.out j u hu⟩) (by simp [Value.oneCell']) (by simp) (by simp [maxLen]; omega) (by omega) (KK99.out.size) ?_
              intro aD cD wD apD
              have KK103 := Lib.hid (KK99.out.grown apD.grew KK99.out.size (fun k e => (EE100.out.lt k e).1))
              have zD : wB.heap.size + 1 ≤ wD.heap.size := by have h := apD.grew.size; (try simp at h); omega
              have PP104 := Lib.hid ((apD.grew.block (wB.heap.size) (by first | (simp; done) | (simp; omega) | omega) (fun e => by first | (have h := (apB.row.lt _ e.symm).2; omega) | (rcases apB.own with k | k <;> (rw [k] at e; simp [Value.ownBlock] at e; try omega)))).trans PP102.out)
              have EE105 := Lib.hid apD.row
              refine hK.out _ _ ?_ (fun hHeld => ?_)
              · exact ⟨(KK103.out.cell (p := ⟨w.heap.size, 0, none⟩) (by dsimp only; omega)).trans c1, (KK103.out.cell (p := ⟨w.heap.size, 1, none⟩) (by dsimp only; omega)).trans c2, KK103.out⟩
              clear hK K
              try simp only [Act.put, List.setIfInBounds_toArray, List.set_cons_zero, List.set_cons_succ]
              refine wpAnyH_take (i := 9) (oi := ⟨some 38, _, _, _, _, _⟩) (v := ?_) rfl (by kernel_rfl) (by kernel_rfl) (by kernel_rfl) (fun _ _ _ h => h) (Or.inl ⟨by rfl, ?_⟩) (by assumption) ?_
              rotate_left
              · (intro w hSw; (try dsimp only at hSw); go_simp; (try with_reducible rfl))
              try simp only [Act.put, List.setIfInBounds_toArray, List.set_cons_zero, List.set_cons_succ]
              refine wpAnyH_ready (rs := [11]) (by kernel_rfl) (by simp) ?_
              refine AllReadyH.cons (o := ⟨none, _, _, _, _, _⟩) rfl (fun K hK => ?_) ?_
              · have q0 := blk_cell PP104.out (j := 0) (u := .slice none 0 0) rfl
                have q1 := blk_cell PP104.out (j := 1) (u := .slice none 0 0) rfl
                obtain ⟨q0, f0⟩ := q0
                obtain ⟨q1, f1⟩ := q1
                go_simp
                refine hK.out _ _ ?_ (fun hHeld => ?_)
                · exact ⟨(((KK103.out.setCell (p := ⟨wB.heap.size, 0, none⟩) (by dsimp only; omega) _).setCell (p := ⟨wB.heap.size, 1, none⟩) (by dsimp only; omega) _).cell (p := ⟨w.heap.size, 0, none⟩) (by dsimp only; omega)).trans c1, (((KK103.out.setCell (p := ⟨wB.heap.size, 0, none⟩) (by dsimp only; omega) _).setCell (p := ⟨wB.heap.size, 1, none⟩) (by dsimp only; omega) _).cell (p := ⟨w.heap.size, 1, none⟩) (by dsimp only; omega)).trans c2, ((KK103.out.setCell (p := ⟨wB.heap.size, 0, none⟩) (by dsimp only; omega) _).setCell (p := ⟨wB.heap.size, 1, none⟩) (by dsimp only; omega) _)⟩
                clear hK K
                try simp only [Act.put, List.setIfInBounds_toArray, List.set_cons_zero, List.set_cons_succ]
                refine wpAnyH_done (by kernel_rfl) ?_ _
                go_wp2_with fail
                go_meet
                have hrow := EE105.out
                rw [← FL1.out] at hrow
                obtain ⟨_, _, hvD, _, hcD, _⟩ := cor_of_row hrow
                simp only [Value.slice.injEq] at hvD
                obtain ⟨rfl, _, rfl⟩ := hvD
                exact box_out (n) (m + 1) HN.out HM1.out PP104.out ((HIN3.out.rv.step KK103.out).more KK103.out.size) hcD (HIN3.out.rv.lt (by omega)) (own_ne (fun e => by cases apD.own with | inl k => (rw [k] at e; first | (have h := (apB.row.lt _ e).2; omega) | (rcases apB.own with k2 | k2 <;> (rw [k2] at e; simp [Value.ownBlock] at e; try omega))) | inr k => (first | (have h := (apD.row.lt _ e).2; omega) | (rw [k] at e; simp [Value.ownBlock] at e; try omega)))) (by omega) KK103.out
              exact AllReadyH.nil
            exact AllReadyH.nil
          exact AllReadyH.nil
        refine AllReadyH.cons (o := ⟨some 5, _, _, _, _, _⟩) rfl (fun K hK => ?_) ?_
        · go_simp
          refine hK.out _ _ ?_ (fun hHeld => ?_)
          · exact ⟨((KK87.out.alloc KK87.out.size _).cell (p := ⟨w.heap.size, 0, none⟩) (by dsimp only; omega)).trans c1, ((KK87.out.alloc KK87.out.size _).cell (p := ⟨w.heap.size, 1, none⟩) (by dsimp only; omega)).trans c2, (KK87.out.alloc KK87.out.size _)⟩
          clear hK K
          try simp only [Act.put, List.setIfInBounds_toArray, List.set_cons_zero, List.set_cons_succ]
          have KK106 := Lib.hid (KK87.out.alloc KK87.out.size (Obj.cells #[.slice none 0 0, .slice none 0 0] 25))
          have EE107 := Lib.hid (EE89.out.alloc (Obj.cells #[.slice none 0 0, .slice none 0 0] 25))
          have NN108 := Lib.hid (blk_alloc NN88.out (Obj.cells #[.slice none 0 0, .slice none 0 0] 25))
          have PP109 := Lib.hid (blk_new ((w3.drew.alloc (Obj.cells #[.int .i64 0, .int .i64 0] 44)).alloc (Obj.cells #[] 44)) (Obj.cells #[.slice none 0 0, .slice none 0 0] 25) (w3.heap.size + 1 + 1) (by first | (simp; done) | (simp; omega) | omega))
          refine wpAnyH_ready (rs := [5]) (by kernel_rfl) (by simp) ?_
          refine AllReadyH.cons (o := ⟨some 34, _, _, _, _, _⟩) rfl (fun K hK => ?_) ?_
          · refine step_append_full (by rfl) _ _ (by rfl) w3.heap.size i1 _ 2 16 und_pt und_pt h1z h1a h1b h1c rfl (by omega) (.slice (some ⟨w3.heap.size + 1, 0, none⟩) 0 0) 0 [] (by rfl) EE107.out B m cp (flatP ps) (by rfl) FLP (cor_news (HIN3.out.rp.step KK106.out)) (flatP_one ps) (HIN3.out.np) (by simp [maxLen]; omega) (by omega) (KK106.out.size) ?_
            intro aB cB wB apB
            simp only [Nat.zero_add, List.nil_append] at apB ⊢
            have KK110 := Lib.hid (KK106.out.grown apB.grew KK106.out.size (fun k e => (EE107.out.lt k e).1))
            have zB : w3.heap.size + 1 + 1 + 1 ≤ wB.heap.size := by have h := apB.grew.size; (try simp at h); omega
            have NN111 := Lib.hid ((apB.grew.block (w3.heap.size) (by first | (simp; done) | (simp; omega) | omega) (by first | (simp [Value.ownBlock]; done) | (simp [Value.ownBlock]; omega))).trans NN108.out)
            have PP112 := Lib.hid ((apB.grew.block (w3.heap.size + 1 + 1) (by first | (simp; done) | (simp; omega) | omega) (by first | (simp [Value.ownBlock]; done) | (simp [Value.ownBlock]; omega))).trans PP109.out)
            have EE113 := Lib.hid apB.row
            refine hK.out _ _ ?_ (fun hHeld => ?_)
            · exact ⟨(KK110.out.cell (p := ⟨w.heap.size, 0, none⟩) (by dsimp only; omega)).trans c1, (KK110.out.cell (p := ⟨w.heap.size, 1, none⟩) (by dsimp only; omega)).trans c2, KK110.out⟩
            clear hK K
            try simp only [Act.put, List.setIfInBounds_toArray, List.set_cons_zero, List.set_cons_succ]
            refine wpAnyH_ready (rs := [8]) (by kernel_rfl) (by simp) ?_
            refine AllReadyH.cons (o := ⟨some 37, _, _, _, _, _⟩) rfl (fun K hK => ?_) ?_
            · refine step_append_full (by rfl) _ _ (by rfl) w3.heap.size i1 _ 2 16 und_pt und_pt h1z h1a h1b h1c rfl (by omega) (.slice aB (m) cB) (m) (flatP ps) (by rfl) EE113.out (some ⟨w3.heap.size, 0, none⟩) 1 1 [.int .i64 0, .int .i64 0] (by rfl) (by rfl) (fun j u hu => ⟨_, rfl, World.news_of_block (cs := #[.int .i64 0, .int .i64 0]) (t := 44) (fr := (0, 0)) NN111.out j u hu⟩) (by simp [Value.oneCell']) (by simp) (by simp [maxLen]; omega) (by omega) (KK110.out.size) ?_
              intro aD cD wD apD
              have KK114 := Lib.hid (KK110.out.grown apD.grew KK110.out.size (fun k e => (EE113.out.lt k e).1))
              have zD : wB.heap.size ≤ wD.heap.size := by have h := apD.grew.size; (try simp at h); omega
              have PP115 := Lib.hid ((apD.grew.block (w3.heap.size + 1 + 1) (by first | (simp; done) | (simp; omega) | omega) (fun e => by first | (have h := (apB.row.lt _ e.symm).2; omega) | (rcases apB.own with k | k <;> (rw [k] at e; simp [Value.ownBlock] at e; try omega)))).trans PP112.out)
              have EE116 := Lib.hid apD.row
              refine hK.out _ _ ?_ (fun hHeld => ?_)
              · exact ⟨(KK114.out.cell (p := ⟨w.heap.size, 0, none⟩) (by dsimp only; omega)).trans c1, (KK114.out.cell (p := ⟨w.heap.size, 1, none⟩) (by dsimp only; omega)).trans c2, KK114.out⟩
              clear hK K
              try simp only [Act.put, List.setIfInBounds_toArray, List.set_cons_zero, List.set_cons_succ]
              refine wpAnyH_take (i := 9) (oi := ⟨some 38, _, _, _, _, _⟩) (v := ?_) rfl (by kernel_rfl) (by kernel_rfl) (by kernel_rfl) (fun _ _ _ h => h) (Or.inl ⟨by rfl, ?_⟩) (by assumption) ?_
              rotate_left
              · (intro w hSw; (try dsimp only at hSw); go_simp; (try with_reducible rfl))
              try simp only [Act.put, List.setIfInBounds_toArray, List.set_cons_zero, List.set_cons_succ]
              refine wpAnyH_ready (rs := [11]) (by kernel_rfl) (by simp) ?_
              refine AllReadyH.cons (o := ⟨none, _, _, _, _, _⟩) rfl (fun K hK => ?_) ?_
              · have q0 := blk_cell PP115.out (j := 0) (u := .slice none 0 0) rfl
                have q1 := blk_cell PP115.out (j := 1) (u := .slice none 0 0) rfl
                obtain ⟨q0, f0⟩ := q0
                obtain ⟨q1, f1⟩ := q1
                go_simp
                refine hK.out _ _ ?_ (fun hHeld => ?_)
                · exact ⟨(((KK114.out.setCell (p := ⟨w3.heap.size + 1 + 1, 0, none⟩) (by dsimp only; omega) _).setCell (p := ⟨w3.heap.size + 1 + 1, 1, none⟩) (by dsimp only; omega) _).cell (p := ⟨w.heap.size, 0, none⟩) (by dsimp only; omega)).trans c1, (((KK114.out.setCell (p := ⟨w3.heap.size + 1 + 1, 0, none⟩) (by dsimp only; omega) _).setCell (p := ⟨w3.heap.size + 1 + 1, 1, none⟩) (by dsimp only; omega) _).cell (p := ⟨w.heap.size, 1, none⟩) (by dsimp only; omega)).trans c2, ((KK114.out.setCell (p := ⟨w3.heap.size + 1 + 1, 0, none⟩) (by dsimp only; omega) _).setCell (p := ⟨w3.heap.size + 1 + 1, 1, none⟩) (by dsimp only; omega) _)⟩
                clear hK K
                try simp only [Act.put, List.setIfInBounds_toArray, List.set_cons_zero, List.set_cons_succ]
                refine wpAnyH_done (by kernel_rfl) ?_ _
                go_wp2_with fail
                go_meet
                have hrow := EE116.out
                rw [← FL1.out] at hrow
                obtain ⟨_, _, hvD, _, hcD, _⟩ := cor_of_row hrow
                simp only [Value.slice.injEq] at hvD
                obtain ⟨rfl, _, rfl⟩ := hvD
                exact box_out (n) (m + 1) HN.out HM1.out PP115.out ((HIN3.out.rv.step KK114.out).more KK114.out.size) hcD (HIN3.out.rv.lt (by omega)) (own_ne (fun e => by cases apD.own with | inl k => (rw [k] at e; first | (have h := (apB.row.lt _ e).2; omega) | (rcases apB.own with k2 | k2 <;> (rw [k2] at e; simp [Value.ownBlock] at e; try omega))) | inr k => (first | (have h := (apD.row.lt _ e).2; omega) | (rw [k] at e; simp [Value.ownBlock] at e; try omega)))) (by omega) KK114.out
              exact AllReadyH.nil
            exact AllReadyH.nil
          exact AllReadyH.nil
        exact AllReadyH.nil
      refine AllReadyH.cons (o := ⟨some 5, _, _, _, _, _⟩) rfl (fun K hK => ?_) ?_
      · go_simp
        refine hK.out _ _ ?_ (fun hHeld => ?_)
        · exact ⟨((KK85.out.alloc KK85.out.size _).cell (p := ⟨w.heap.size, 0, none⟩) (by dsimp only; omega)).trans c1, ((KK85.out.alloc KK85.out.size _).cell (p := ⟨w.heap.size, 1, none⟩) (by dsimp only; omega)).trans c2, (KK85.out.alloc KK85.out.size _)⟩
        clear hK K
        try simp only [Act.put, List.setIfInBounds_toArray, List.set_cons_zero, List.set_cons_succ]
        have KK117 := Lib.hid (KK85.out.alloc KK85.out.size (Obj.cells #[.slice none 0 0, .slice none 0 0] 25))
        have NN118 := Lib.hid (blk_alloc NN86.out (Obj.cells #[.slice none 0 0, .slice none 0 0] 25))
        have PP119 := Lib.hid (blk_new (w3.drew.alloc (Obj.cells #[.int .i64 0, .int .i64 0] 44)) (Obj.cells #[.slice none 0 0, .slice none 0 0] 25) (w3.heap.size + 1) (by first | (simp; done) | (simp; omega) | omega))
        refine wpAnyH_ready (rs := [2]) (by kernel_rfl) (by simp) ?_
        refine AllReadyH.cons (o := ⟨some 31, _, _, _, _, _⟩) rfl (fun K hK => ?_) ?_
        · go_simp
          refine hK.out _ _ ?_ (fun hHeld => ?_)
          · exact ⟨((KK117.out.alloc KK117.out.size _).cell (p := ⟨w.heap.size, 0, none⟩) (by dsimp only; omega)).trans c1, ((KK117.out.alloc KK117.out.size _).cell (p := ⟨w.heap.size, 1, none⟩) (by dsimp only; omega)).trans c2, (KK117.out.alloc KK117.out.size _)⟩
          clear hK K
          try simp only [Act.put, List.setIfInBounds_toArray, List.set_cons_zero, List.set_cons_succ]
          have KK120 := Lib.hid (KK117.out.alloc KK117.out.size (Obj.cells #[] 44))
          have NN121 := Lib.hid (blk_alloc NN118.out (Obj.cells #[] 44))
          have PP122 := Lib.hid (blk_alloc PP119.out (Obj.cells #[] 44))
          have EE123 := Lib.hid (own_made' ((w3.drew.alloc (Obj.cells #[.int .i64 0, .int .i64 0] 44)).alloc (Obj.cells #[.slice none 0 0, .slice none 0 0] 25)) 44 (w3.heap.size) 2 (w3.heap.size + 1 + 1) (by first | (simp; done) | (simp; omega) | omega) KK117.out.size)
          refine wpAnyH_ready (rs := [5]) (by kernel_rfl) (by simp) ?_
          refine AllReadyH.cons (o := ⟨some 34, _, _, _, _, _⟩) rfl (fun K hK => ?_) ?_
          · refine step_append_full (by rfl) _ _ (by rfl) w3.heap.size i1 _ 2 16 und_pt und_pt h1z h1a h1b h1c rfl (by omega) (.slice (some ⟨w3.heap.size + 1 + 1, 0, none⟩) 0 0) 0 [] (by rfl) EE123.out B m cp (flatP ps) (by rfl) FLP (cor_news (HIN3.out.rp.step KK120.out)) (flatP_one ps) (HIN3.out.np) (by simp [maxLen]; omega) (by omega) (KK120.out.size) ?_
            intro aB cB wB apB
            simp only [Nat.zero_add, List.nil_append] at apB ⊢
            have KK124 := Lib.hid (KK120.out.grown apB.grew KK120.out.size (fun k e => (EE123.out.lt k e).1))
            have zB : w3.heap.size + 1 + 1 + 1 ≤ wB.heap.size := by have h := apB.grew.size; (try simp at h); omega
            have NN125 := Lib.hid ((apB.grew.block (w3.heap.size) (by first | (simp; done) | (simp; omega) | omega) (by first | (simp [Value.ownBlock]; done) | (simp [Value.ownBlock]; omega))).trans NN121.out)
            have PP126 := Lib.hid ((apB.grew.block (w3.heap.size + 1) (by first | (simp; done) | (simp; omega) | omega) (by first | (simp [Value.ownBlock]; done) | (simp [Value.ownBlock]; omega))).trans PP122.out)
            have EE127 := Lib.hid apB.row
            refine hK.out _ _ ?_ (fun hHeld => ?_)
            · exact ⟨(KK124.out.cell (p := ⟨w.heap.size, 0, none⟩) (by dsimp only; omega)).trans c1, (KK124.out.cell (p := ⟨w.heap.size, 1, none⟩) (by dsimp only; omega)).trans c2, KK124.out⟩
            clear hK K
            try simp only [Act.put, List.setIfInBounds_toArray, List.set_cons_zero, List.set_cons_succ]
            refine wpAnyH_ready (rs := [8]) (by kernel_rfl) (by simp) ?_
            refine AllReadyH.cons (o := ⟨some 37, _, _, _, _, _⟩) rfl (fun K hK => ?_) ?_
            · refine step_append_full (by rfl) _ _ (by rfl) w3.heap.size i1 _ 2 16 und_pt und_pt h1z h1a h1b h1c rfl (by omega) (.slice aB (m) cB) (m) (flatP ps) (by rfl) EE127.out (some ⟨w3.heap.size, 0, none⟩) 1 1 [.int .i64 0, .int .i64 0] (by rfl) (by rfl) (fun j u hu => ⟨_, rfl, World.news_of_block (cs := #[.int .i64 0, .int .i64 0]) (t := 44) (fr := (0, 0)) NN125.out j u hu⟩) (by simp [Value.oneCell']) (by simp) (by simp [maxLen]; omega) (by omega) (KK124.out.size) ?_
              intro aD cD wD apD
              have KK128 := Lib.hid (KK124.out.grown apD.grew KK124.out.size (fun k e => (EE127.out.lt k e).1))
              have zD : wB.heap.size ≤ wD.heap.size := by have h := apD.grew.size; (try simp at h); omega
              have PP129 := Lib.hid ((apD.grew.block (w3.heap.size + 1) (by first | (simp; done) | (simp; omega) | omega) (fun e => by first | (have h := (apB.row.lt _ e.symm).2; omega) | (rcases apB.own with k | k <;> (rw [k] at e; simp [Value.ownBlock] at e; try omega)))).trans PP126.out)
              have EE130 := Lib.hid apD.row
              refine hK.out _ _ ?_ (fun hHeld => ?_)
              · exact ⟨(KK128.out.cell (p := ⟨w.heap.size, 0, none⟩) (by dsimp only; omega)).trans c1, (KK128.out.cell (p := ⟨w.heap.size, 1, none⟩) (by dsimp only; omega)).trans c2, KK128.out⟩
              clear hK K
              try simp only [Act.put, List.setIfInBounds_toArray, List.set_cons_zero, List.set_cons_succ]
              refine wpAnyH_take (i := 9) (oi := ⟨some 38, _, _, _, _, _⟩) (v := ?_) rfl (by kernel_rfl) (by kernel_rfl) (by kernel_rfl) (fun _ _ _ h => h) (Or.inl ⟨by rfl, ?_⟩) (by assumption) ?_
              rotate_left
              · (intro w hSw; (try dsimp only at hSw); go_simp; (try with_reducible rfl))
              try simp only [Act.put, List.setIfInBounds_toArray, List.set_cons_zero, List.set_cons_succ]
              refine wpAnyH_ready (rs := [11]) (by kernel_rfl) (by simp) ?_
              refine AllReadyH.cons (o := ⟨none, _, _, _, _, _⟩) rfl (fun K hK => ?_) ?_
              · have q0 := blk_cell PP129.out (j := 0) (u := .slice none 0 0) rfl
                have q1 := blk_cell PP129.out (j := 1) (u := .slice none 0 0) rfl
                obtain ⟨q0, f0⟩ := q0
                obtain ⟨q1, f1⟩ := q1
                go_simp
                refine hK.out _ _ ?_ (fun hHeld => ?_)
                · exact ⟨(((KK128.out.setCell (p := ⟨w3.heap.size + 1, 0, none⟩) (by dsimp only; omega) _).setCell (p := ⟨w3.heap.size + 1, 1, none⟩) (by dsimp only; omega) _).cell (p := ⟨w.heap.size, 0, none⟩) (by dsimp only; omega)).trans c1, (((KK128.out.setCell (p := ⟨w3.heap.size + 1, 0, none⟩) (by dsimp only; omega) _).setCell (p := ⟨w3.heap.size + 1, 1, none⟩) (by dsimp only; omega) _).cell (p := ⟨w.heap.size, 1, none⟩) (by dsimp only; omega)).trans c2, ((KK128.out.setCell (p := ⟨w3.heap.size + 1, 0, none⟩) (by dsimp only; omega) _).setCell (p := ⟨w3.heap.size + 1, 1, none⟩) (by dsimp only; omega) _)⟩
                clear hK K
                try simp only [Act.put, List.setIfInBounds_toArray, List.set_cons_zero, List.set_cons_succ]
                refine wpAnyH_done (by kernel_rfl) ?_ _
                go_wp2_with fail
                go_meet
                have hrow := EE130.out
                rw [← FL1.out] at hrow
                obtain ⟨_, _, hvD, _, hcD, _⟩ := cor_of_row hrow
                simp only [Value.slice.injEq] at hvD
                obtain ⟨rfl, _, rfl⟩ := hvD
                exact box_out (n) (m + 1) HN.out HM1.out PP129.out ((HIN3.out.rv.step KK128.out).more KK128.out.size) hcD (HIN3.out.rv.lt (by omega)) (own_ne (fun e => by cases apD.own with | inl k => (rw [k] at e; first | (have h := (apB.row.lt _ e).2; omega) | (rcases apB.own with k2 | k2 <;> (rw [k2] at e; simp [Value.ownBlock] at e; try omega))) | inr k => (first | (have h := (apD.row.lt _ e).2; omega) | (rw [k] at e; simp [Value.ownBlock] at e; try omega)))) (by omega) KK128.out
              exact AllReadyH.nil
            exact AllReadyH.nil
          exact AllReadyH.nil
        exact AllReadyH.nil
      exact AllReadyH.nil
    refine AllReadyH.cons (o := ⟨some 5, _, _, _, _, _⟩) rfl (fun K hK => ?_) ?_
    · go_simp
      refine hK.out _ _ ?_ (fun hHeld => ?_)
      · exact ⟨((KK0.out.alloc KK0.out.size _).cell (p := ⟨w.heap.size, 0, none⟩) (by dsimp only; omega)).trans c1, ((KK0.out.alloc KK0.out.size _).cell (p := ⟨w.heap.size, 1, none⟩) (by dsimp only; omega)).trans c2, (KK0.out.alloc KK0.out.size _)⟩
      clear hK K
      try simp only [Act.put, List.setIfInBounds_toArray, List.set_cons_zero, List.set_cons_succ]
      have KK131 := Lib.hid (KK0.out.alloc KK0.out.size (Obj.cells #[.slice none 0 0, .slice none 0 0] 25))
      have PP132 := Lib.hid (blk_new w3.drew (Obj.cells #[.slice none 0 0, .slice none 0 0] 25) (w3.heap.size) (by first | (simp; done) | (simp; omega) | omega))
      refine wpAnyH_ready (rs := [2, 7]) (by kernel_rfl) (by simp) ?_
      refine AllReadyH.cons (o := ⟨some 31, _, _, _, _, _⟩) rfl (fun K hK => ?_) ?_
      · go_simp
        refine hK.out _ _ ?_ (fun hHeld => ?_)
        · exact ⟨((KK131.out.alloc KK131.out.size _).cell (p := ⟨w.heap.size, 0, none⟩) (by dsimp only; omega)).trans c1, ((KK131.out.alloc KK131.out.size _).cell (p := ⟨w.heap.size, 1, none⟩) (by dsimp only; omega)).trans c2, (KK131.out.alloc KK131.out.size _)⟩
        clear hK K
        try simp only [Act.put, List.setIfInBounds_toArray, List.set_cons_zero, List.set_cons_succ]
        have KK133 := Lib.hid (KK131.out.alloc KK131.out.size (Obj.cells #[] 44))
        have PP134 := Lib.hid (blk_alloc PP132.out (Obj.cells #[] 44))
        have EE135 := Lib.hid (own_made' (w3.drew.alloc (Obj.cells #[.slice none 0 0, .slice none 0 0] 25)) 44 (w3.heap.size) 2 (w3.heap.size + 1) (by first | (simp; done) | (simp; omega) | omega) KK131.out.size)
        refine wpAnyH_ready (rs := [5, 7]) (by kernel_rfl) (by simp) ?_
        refine AllReadyH.cons (o := ⟨some 34, _, _, _, _, _⟩) rfl (fun K hK => ?_) ?_
        · refine step_append_full (by rfl) _ _ (by rfl) w3.heap.size i1 _ 2 16 und_pt und_pt h1z h1a h1b h1c rfl (by omega) (.slice (some ⟨w3.heap.size + 1, 0, none⟩) 0 0) 0 [] (by rfl) EE135.out B m cp (flatP ps) (by rfl) FLP (cor_news (HIN3.out.rp.step KK133.out)) (flatP_one ps) (HIN3.out.np) (by simp [maxLen]; omega) (by omega) (KK133.out.size) ?_
          intro aB cB wB apB
          simp only [Nat.zero_add, List.nil_append] at apB ⊢
          have KK136 := Lib.hid (KK133.out.grown apB.grew KK133.out.size (fun k e => (EE135.out.lt k e).1))
          have zB : w3.heap.size + 1 + 1 ≤ wB.heap.size := by have h := apB.grew.size; (try simp at h); omega
          have PP137 := Lib.hid ((apB.grew.block (w3.heap.size) (by first | (simp; done) | (simp; omega) | omega) (by first | (simp [Value.ownBlock]; done) | (simp [Value.ownBlock]; omega))).trans PP134.out)
          have EE138 := Lib.hid apB.row
          refine hK.out _ _ ?_ (fun hHeld => ?_)
          · exact ⟨(KK136.out.cell (p := ⟨w.heap.size, 0, none⟩) (by dsimp only; omega)).trans c1, (KK136.out.cell (p := ⟨w.heap.size, 1, none⟩) (by dsimp only; omega)).trans c2, KK136.out⟩
          clear hK K
          try simp only [Act.put, List.setIfInBounds_toArray, List.set_cons_zero, List.set_cons_succ]
          refine wpAnyH_ready (rs := [7]) (by kernel_rfl) (by simp) ?_
          refine AllReadyH.cons (o := ⟨some 36, _, _, _, _, _⟩) rfl (fun K hK => ?_) ?_
          · go_simp
            refine hK.out _ _ ?_ (fun hHeld => ?_)
            · exact ⟨((KK136.out.alloc KK136.out.size _).cell (p := ⟨w.heap.size, 0, none⟩) (by dsimp only; omega)).trans c1, ((KK136.out.alloc KK136.out.size _).cell (p := ⟨w.heap.size, 1, none⟩) (by dsimp only; omega)).trans c2, (KK136.out.alloc KK136.out.size _)⟩
            clear hK K
            try simp only [Act.put, List.setIfInBounds_toArray, List.set_cons_zero, List.set_cons_succ]
            have KK139 := Lib.hid (KK136.out.alloc KK136.out.size (Obj.cells #[.int .i64 0, .int .i64 0] 44))
            have EE140 := Lib.hid (EE138.out.alloc (Obj.cells #[.int .i64 0, .int .i64 0] 44))
            have PP141 := Lib.hid (blk_alloc PP137.out (Obj.cells #[.int .i64 0, .int .i64 0] 44))
            have NN142 := Lib.hid (blk_new wB (Obj.cells #[.int .i64 0, .int .i64 0] 44) (wB.heap.size) (by first | (simp; done) | (simp; omega) | omega))
            refine wpAnyH_ready (rs := [8]) (by kernel_rfl) (by simp) ?_
            refine AllReadyH.cons (o := ⟨some 37, _, _, _, _, _⟩) rfl (fun K hK => ?_) ?_
            · refine step_append_full (by rfl) _ _ (by rfl) w3.heap.size i1 _ 2 16 und_pt und_pt h1z h1a h1b h1c rfl (by omega) (.slice aB (m) cB) (m) (flatP ps) (by rfl) EE140.out (some ⟨wB.heap.size, 0, none⟩) 1 1 [.int .i64 0, .int .i64 0] (by rfl) (by rfl) (fun j u hu => ⟨_, rfl, World.news_of_block (cs := #[.int .i64 0, .int .i64 0]) (t := 44) (fr := (0, 0)) NN142.out j u hu⟩) (by simp [Value.oneCell']) (by simp) (by simp [maxLen]; omega) (by omega) (KK139.out.size) ?_
              intro aD cD wD apD
              have KK143 := Lib.hid (KK139.out.grown apD.grew KK139.out.size (fun k e => (EE140.out.lt k e).1))
              have zD : wB.heap.size + 1 ≤ wD.heap.size := by have h := apD.grew.size; (try simp at h); omega
              have PP144 := Lib.hid ((apD.grew.block (w3.heap.size) (by first | (simp; done) | (simp; omega) | omega) (fun e => by first | (have h := (apB.row.lt _ e.symm).2; omega) | (rcases apB.own with k | k <;> (rw [k] at e; simp [Value.ownBlock] at e; try omega)))).trans PP141.out)
              have EE145 := Lib.hid apD.row
              refine hK.out _ _ ?_ (fun hHeld => ?_)
              · exact ⟨(KK143.out.cell (p := ⟨w.heap.size, 0, none⟩) (by dsimp only; omega)).trans c1, (KK143.out.cell (p := ⟨w.heap.size, 1, none⟩) (by dsimp only; omega)).trans c2, KK143.out⟩
              clear hK K
              try simp only [Act.put, List.setIfInBounds_toArray, List.set_cons_zero, List.set_cons_succ]
              refine wpAnyH_take (i := 9) (oi := ⟨some 38, _, _, _, _, _⟩) (v := ?_) rfl (by kernel_rfl) (by kernel_rfl) (by kernel_rfl) (fun _ _ _ h => h) (Or.inl ⟨by rfl, ?_⟩) (by assumption) ?_
              rotate_left
              · (intro w hSw; (try dsimp only at hSw); go_simp; (try with_reducible rfl))
              try simp only [Act.put, List.setIfInBounds_toArray, List.set_cons_zero, List.set_cons_succ]
              refine wpAnyH_ready (rs := [11]) (by kernel_rfl) (by simp) ?_
              refine AllReadyH.cons (o := ⟨none, _, _, _, _, _⟩) rfl (fun K hK => ?_) ?_
              · have q0 := blk_cell PP144.out (j := 0) (u := .slice none 0 0) rfl
                have q1 := blk_cell PP144.out (j := 1) (u := .slice none 0 0) rfl
                obtain ⟨q0, f0⟩ := q0
                obtain ⟨q1, f1⟩ := q1
                go_simp
                refine hK.out _ _ ?_ (fun hHeld => ?_)
                · exact ⟨(((KK143.out.setCell (p := ⟨w3.heap.size, 0, none⟩) (by dsimp only; omega) _).setCell (p := ⟨w3.heap.size, 1, none⟩) (by dsimp only; omega) _).cell (p := ⟨w.heap.size, 0, none⟩) (by dsimp only; omega)).trans c1, (((KK143.out.setCell (p := ⟨w3.heap.size, 0, none⟩) (by dsimp only; omega) _).setCell (p := ⟨w3.heap.size, 1, none⟩) (by dsimp only; omega) _).cell (p := ⟨w.heap.size, 1, none⟩) (by dsimp only; omega)).trans c2, ((KK143.out.setCell (p := ⟨w3.heap.size, 0, none⟩) (by dsimp only; omega) _).setCell (p := ⟨w3.heap.size, 1, none⟩) (by dsimp only; omega) _)⟩
                clear hK K
                try simp only [Act.put, List.setIfInBounds_toArray, List.set_cons_zero, List.set_cons_succ]
                refine wpAnyH_done (by kernel_rfl) ?_ _
                go_wp2_with fail
                go_meet
                have hrow := EE145.out
                rw [← FL1.out] at hrow
                obtain ⟨_, _, hvD, _, hcD, _⟩ := cor_of_row hrow
                simp only [Value.slice.injEq] at hvD
                obtain ⟨rfl, _, rfl⟩ := hvD
                exact box_out (n) (m + 1) HN.out HM1.out PP144.out ((HIN3.out.rv.step KK143.out).more KK143.out.size) hcD (HIN3.out.rv.lt (by omega)) (own_ne (fun e => by cases apD.own with | inl k => (rw [k] at e; first | (have h := (apB.row.lt _ e).2; omega) | (rcases apB.own with k2 | k2 <;> (rw [k2] at e; simp [Value.ownBlock] at e; try omega))) | inr k => (first | (have h := (apD.row.lt _ e).2; omega) | (rw [k] at e; simp [Value.ownBlock] at e; try omega)))) (by omega) KK143.out
              exact AllReadyH.nil
            exact AllReadyH.nil
          exact AllReadyH.nil
        refine AllReadyH.cons (o := ⟨some 36, _, _, _, _, _⟩) rfl (fun K hK => ?_) ?_
        · go_simp
          refine hK.out _ _ ?_ (fun hHeld => ?_)
          · exact ⟨((KK133.out.alloc KK133.out.size _).cell (p := ⟨w.heap.size, 0, none⟩) (by dsimp only; omega)).trans c1, ((KK133.out.alloc KK133.out.size _).cell (p := ⟨w.heap.size, 1, none⟩) (by dsimp only; omega)).trans c2, (KK133.out.alloc KK133.out.size _)⟩
          clear hK K
          try simp only [Act.put, List.setIfInBounds_toArray, List.set_cons_zero, List.set_cons_succ]
          have KK146 := Lib.hid (KK133.out.alloc KK133.out.size (Obj.cells #[.int .i64 0, .int .i64 0] 44))
          have EE147 := Lib.hid (EE135.out.alloc (Obj.cells #[.int .i64 0, .int .i64 0] 44))
          have PP148 := Lib.hid (blk_alloc PP134.out (Obj.cells #[.int .i64 0, .int .i64 0] 44))
          have NN149 := Lib.hid (blk_new ((w3.drew.alloc (Obj.cells #[.slice none 0 0, .slice none 0 0] 25)).alloc (Obj.cells #[] 44)) (Obj.cells #[.int .i64 0, .int .i64 0] 44) (w3.heap.size + 1 + 1) (by first | (simp; done) | (simp; omega) | omega))
          refine wpAnyH_ready (rs := [5]) (by kernel_rfl) (by simp) ?_
          refine AllReadyH.cons (o := ⟨some 34, _, _, _, _, _⟩) rfl (fun K hK => ?_) ?_
          · refine step_append_full (by rfl) _ _ (by rfl) w3.heap.size i1 _ 2 16 und_pt und_pt h1z h1a h1b h1c rfl (by omega) (.slice (some ⟨w3.heap.size + 1, 0, none⟩) 0 0) 0 [] (by rfl) EE147.out B m cp (flatP ps) (by rfl) FLP (cor_news (HIN3.out.rp.step KK146.out)) (flatP_one ps) (HIN3.out.np) (by simp [maxLen]; omega) (by omega) (KK146.out.size) ?_
            intro aB cB wB apB
            simp only [Nat.zero_add, List.nil_append] at apB ⊢
            have KK150 := Lib.hid (KK146.out.grown apB.grew KK146.out.size (fun k e => (EE147.out.lt k e).1))
            have zB : w3.heap.size + 1 + 1 + 1 ≤ wB.heap.size := by have h := apB.grew.size; (try simp at h); omega
            have NN151 := Lib.hid ((apB.grew.block (w3.heap.size + 1 + 1) (by first | (simp; done) | (simp; omega) | omega) (by first | (simp [Value.ownBlock]; done) | (simp [Value.ownBlock]; omega))).trans NN149.out)
            have PP152 := Lib.hid ((apB.grew.block (w3.heap.size) (by first | (simp; done) | (simp; omega) | omega) (by first | (simp [Value.ownBlock]; done) | (simp [Value.ownBlock]; omega))).trans PP148.out)
            have EE153 := Lib.hid apB.row
            refine hK.out _ _ ?_ (fun hHeld => ?_)
            · exact ⟨(KK150.out.cell (p := ⟨w.heap.size, 0, none⟩) (by dsimp only; omega)).trans c1, (KK150.out.cell (p := ⟨w.heap.size, 1, none⟩) (by dsimp only; omega)).trans c2, KK150.out⟩
            clear hK K
            try simp only [Act.put, List.setIfInBounds_toArray, List.set_cons_zero, List.set_cons_succ]
            refine wpAnyH_ready (rs := [8]) (by kernel_rfl) (by simp) ?_
            refine AllReadyH.cons (o := ⟨some 37, _, _, _, _, _⟩) rfl (fun K hK => ?_) ?_
            · refine step_append_full (by rfl) _ _ (by rfl) w3.heap.size i1 _ 2 16 und_pt und_pt h1z h1a h1b h1c rfl (by omega) (.slice aB (m) cB) (m) (flatP ps) (by rfl) EE153.out (some ⟨w3.heap.size + 1 + 1, 0, none⟩) 1 1 [.int .i64 0, .int .i64 0] (by rfl) (by rfl) (fun j u hu => ⟨_, rfl, World.news_of_block (cs := #[.int .i64 0, .int .i64 0]) (t := 44) (fr := (0, 0)) NN151.out j u hu⟩) (by simp [Value.oneCell']) (by simp) (by simp [maxLen]; omega) (by omega) (KK150.out.size) ?_
              intro aD cD wD apD
              have KK154 := Lib.hid (KK150.out.grown apD.grew KK150.out.size (fun k e => (EE153.out.lt k e).1))
              have zD : wB.heap.size ≤ wD.heap.size := by have h := apD.grew.size; (try simp at h); omega
              have PP155 := Lib.hid ((apD.grew.block (w3.heap.size) (by first | (simp; done) | (simp; omega) | omega) (fun e => by first | (have h := (apB.row.lt _ e.symm).2; omega) | (rcases apB.own with k | k <;> (rw [k] at e; simp [Value.ownBlock] at e; try omega)))).trans PP152.out)
              have EE156 := Lib.hid apD.row
              refine hK.out _ _ ?_ (fun hHeld => ?_)
              · exact ⟨(KK154.out.cell (p := ⟨w.heap.size, 0, none⟩) (by dsimp only; omega)).trans c1, (KK154.out.cell (p := ⟨w.heap.size, 1, none⟩) (by dsimp only; omega)).trans c2, KK154.out⟩
              clear hK K
              try simp only [Act.put, List.setIfInBounds_toArray, List.set_cons_zero, List.set_cons_succ]
              refine wpAnyH_take (i := 9) (oi := ⟨some 38, _, _, _, _, _⟩) (v := ?_) rfl (by kernel_rfl) (by kernel_rfl) (by kernel_rfl) (fun _ _ _ h => h) (Or.inl ⟨by rfl, ?_⟩) (by assumption) ?_
              rotate_left
              · (intro w hSw; (try dsimp only at hSw); go_simp; (try with_reducible rfl))
              try simp only [Act.put, List.setIfInBounds_toArray, List.set_cons_zero, List.set_cons_succ]
              refine wpAnyH_ready (rs := [11]) (by kernel_rfl) (by simp) ?_
              refine AllReadyH.cons (o := ⟨none, _, _, _, _, _⟩) rfl (fun K hK => ?_) ?_
              · have q0 := blk_cell PP155.out (j := 0) (u := .slice none 0 0) rfl
                have q1 := blk_cell PP155.out (j := 1) (u := .slice none 0 0) rfl
                obtain ⟨q0, f0⟩ := q0
                obtain ⟨q1, f1⟩ := q1
                go_simp
                refine hK.out _ _ ?_ (fun hHeld => ?_)
                · exact ⟨(((KK154.out.setCell (p := ⟨w3.heap.size, 0, none⟩) (by dsimp only; omega) _).setCell (p := ⟨w3.heap.size, 1, none⟩) (by dsimp only; omega) _).cell (p := ⟨w.heap.size, 0, none⟩) (by dsimp only; omega)).trans c1, (((KK154.out.setCell (p := ⟨w3.heap.size, 0, none⟩) (by dsimp only; omega) _).setCell (p := ⟨w3.heap.size, 1, none⟩) (by dsimp only; omega) _).cell (p := ⟨w.heap.size, 1, none⟩) (by dsimp only; omega)).trans c2, ((KK154.out.setCell (p := ⟨w3.heap.size, 0, none⟩) (by dsimp only; omega) _).setCell (p := ⟨w3.heap.size, 1, none⟩) (by dsimp only; omega) _)⟩
                clear hK K
                try simp only [Act.put, List.setIfInBounds_toArray, List.set_cons_zero, List.set_cons_succ]
                refine wpAnyH_done (by kernel_rfl) ?_ _
                go_wp2_with fail
                go_meet
                have hrow := EE156.out
                rw [← FL1.out] at hrow
                obtain ⟨_, _, hvD, _, hcD, _⟩ := cor_of_row hrow
                simp only [Value.slice.injEq] at hvD
                obtain ⟨rfl, _, rfl⟩ := hvD
                exact box_out (n) (m + 1) HN.out HM1.out PP155.out ((HIN3.out.rv.step KK154.out).more KK154.out.size) hcD (HIN3.out.rv.lt (by omega)) (own_ne (fun e => by cases apD.own with | inl k => (rw [k] at e; first | (have h := (apB.row.lt _ e).2; omega) | (rcases apB.own with k2 | k2 <;> (rw [k2] at e; simp [Value.ownBlock] at e; try omega))) | inr k => (first | (have h := (apD.row.lt _ e).2; omega) | (rw [k] at e; simp [Value.ownBlock] at e; try omega)))) (by omega) KK154.out
              exact AllReadyH.nil
            exact AllReadyH.nil
          exact AllReadyH.nil
        exact AllReadyH.nil
      refine AllReadyH.cons (o := ⟨some 36, _, _, _, _, _⟩) rfl (fun K hK => ?_) ?_
      · go_simp
        refine hK.out _ _ ?_ (fun hHeld => ?_)
        · exact ⟨((KK131.out.alloc KK131.out.size _).cell (p := ⟨w.heap.size, 0, none⟩) (by dsimp only; omega)).trans c1, ((KK131.out.alloc KK131.out.size _).cell (p := ⟨w.heap.size, 1, none⟩) (by dsimp only; omega)).trans c2, (KK131.out.alloc KK131.out.size _)⟩
        clear hK K
        try simp only [Act.put, List.setIfInBounds_toArray, List.set_cons_zero, List.set_cons_succ]
        have KK157 := Lib.hid (KK131.out.alloc KK131.out.size (Obj.cells #[.int .i64 0, .int .i64 0] 44))
        have PP158 := Lib.hid (blk_alloc PP132.out (Obj.cells #[.int .i64 0, .int .i64 0] 44))
        have NN159 := Lib.hid (blk_new (w3.drew.alloc (Obj.cells #[.slice none 0 0, .slice none 0 0] 25)) (Obj.cells #[.int .i64 0, .int .i64 0] 44) (w3.heap.size + 1) (by first | (simp; done) | (simp; omega) | omega))
        refine wpAnyH_ready (rs := [2]) (by kernel_rfl) (by simp) ?_
        refine AllReadyH.cons (o := ⟨some 31, _, _, _, _, _⟩) rfl (fun K hK => ?_) ?_
        · go_simp
          refine hK.out _ _ ?_ (fun hHeld => ?_)
          · exact ⟨((KK157.out.alloc KK157.out.size _).cell (p := ⟨w.heap.size, 0, none⟩) (by dsimp only; omega)).trans c1, ((KK157.out.alloc KK157.out.size _).cell (p := ⟨w.heap.size, 1, none⟩) (by dsimp only; omega)).trans c2, (KK157.out.alloc KK157.out.size _)⟩
          clear hK K
          try simp only [Act.put, List.setIfInBounds_toArray, List.set_cons_zero, List.set_cons_succ]
          have KK160 := Lib.hid (KK157.out.alloc KK157.out.size (Obj.cells #[] 44))
          have NN161 := Lib.hid (blk_alloc NN159.out (Obj.cells #[] 44))
          have PP162 := Lib.hid (blk_alloc PP158.out (Obj.cells #[] 44))
          have EE163 := Lib.hid (own_made' ((w3.drew.alloc (Obj.cells #[.slice none 0 0, .slice none 0 0] 25)).alloc (Obj.cells #[.int .i64 0, .int .i64 0] 44)) 44 (w3.heap.size) 2 (w3.heap.size + 1 + 1) (by first | (simp; done) | (simp; omega) | omega) KK157.out.size)
          refine wpAnyH_ready (rs := [5]) (by kernel_rfl) (by simp) ?_
          refine AllReadyH.cons (o := ⟨some 34, _, _, _, _, _⟩) rfl (fun K hK => ?_) ?_
          · refine step_append_full (by rfl) _ _ (by rfl) w3.heap.size i1 _ 2 16 und_pt und_pt h1z h1a h1b h1c rfl (by omega) (.slice (some ⟨w3.heap.size + 1 + 1, 0, none⟩) 0 0) 0 [] (by rfl) EE163.out B m cp (flatP ps) (by rfl) FLP (cor_news (HIN3.out.rp.step KK160.out)) (flatP_one ps) (HIN3.out.np) (by simp [maxLen]; omega) (by omega) (KK160.out.size) ?_
            intro aB cB wB apB
            simp only [Nat.zero_add, List.nil_append] at apB ⊢
            have KK164 := Lib.hid (KK160.out.grown apB.grew KK160.out.size (fun k e => (EE163.out.lt k e).1))
            have zB : w3.heap.size + 1 + 1 + 1 ≤ wB.heap.size := by have h := apB.grew.size; (try simp at h); omega
            have NN165 := Lib.hid ((apB.grew.block (w3.heap.size + 1) (by first | (simp; done) | (simp; omega) | omega) (by first | (simp [Value.ownBlock]; done) | (simp [Value.ownBlock]; omega))).trans NN161.out)
            have PP166 := Lib.hid ((apB.grew.block (w3.heap.size) (by first | (simp; done) | (simp; omega) | omega) (by first | (simp [Value.ownBlock]; done) | (simp [Value.ownBlock]; omega))).trans PP162.out)
            have EE167 := Lib.hid apB.row
            refine hK.out _ _ ?_ (fun hHeld => ?_)
            · exact ⟨(KK164.out.cell (p := ⟨w.heap.size, 0, none⟩) (by dsimp only; omega)).trans c1, (KK164.out.cell (p := ⟨w.heap.size, 1, none⟩) (by dsimp only; omega)).trans c2, KK164.out⟩
            clear hK K
            try simp only [Act.put, List.setIfInBounds_toArray, List.set_cons_zero, List.set_cons_succ]
            refine wpAnyH_ready (rs := [8]) (by kernel_rfl) (by simp) ?_
            refine AllReadyH.cons (o := ⟨some 37, _, _, _, _, _⟩) rfl (fun K hK => ?_) ?_
            · refine step_append_full (by rfl) _ _ (by rfl) w3.heap.size i1 _ 2 16 und_pt und_pt h1z h1a h1b h1c rfl (by omega) (.slice aB (m) cB) (m) (flatP ps) (by rfl) EE167.out (some ⟨w3.heap.size + 1, 0, none⟩) 1 1 [.int .i64 0, .int .i64 0] (by rfl) (by rfl) (fun j u hu => ⟨_, rfl, World.news_of_block (cs := #[.int .i64 0, .int .i64 0]) (t := 44) (fr := (0, 0)) NN165.out j u hu⟩) (by simp [Value.oneCell']) (by simp) (by simp [maxLen]; omega) (by omega) (KK164.out.size) ?_
              intro aD cD wD apD
              have KK168 := Lib.hid (KK164.out.grown apD.grew KK164.out.size (fun k e => (EE167.out.lt k e).1))
              have zD : wB.heap.size ≤ wD.heap.size := by have h := apD.grew.size; (try simp at h); omega
              have PP169 := Lib.hid ((apD.grew.block (w3.heap.size) (by first | (simp; done) | (simp; omega) | omega) (fun e => by first | (have h := (apB.row.lt _ e.symm).2; omega) | (rcases apB.own with k | k <;> (rw [k] at e; simp [Value.ownBlock] at e; try omega)))).trans PP166.out)
              have EE170 := Lib.hid apD.row
              refine hK.out _ _ ?_ (fun hHeld => ?_)
              · exact ⟨(KK168.out.cell (p := ⟨w.heap.size, 0, none⟩) (by dsimp only; omega)).trans c1, (KK168.out.cell (p := ⟨w.heap.size, 1, none⟩) (by dsimp only; omega)).trans c2, KK168.out⟩
              clear hK K
              try simp only [Act.put, List.setIfInBounds_toArray, List.set_cons_zero, List.set_cons_succ]
              refine wpAnyH_take (i := 9) (oi := ⟨some 38, _, _, _, _, _⟩) (v := ?_) rfl (by kernel_rfl) (by kernel_rfl) (by kernel_rfl) (fun _ _ _ h => h) (Or.inl ⟨by rfl, ?_⟩) (by assumption) ?_
              rotate_left
              · (intro w hSw; (try dsimp only at hSw); go_simp; (try with_reducible rfl))
              try simp only [Act.put, List.setIfInBounds_toArray, List.set_cons_zero, List.set_cons_succ]
              refine wpAnyH_ready (rs := [11]) (by kernel_rfl) (by simp) ?_
              refine AllReadyH.cons (o := ⟨none, _, _, _, _, _⟩) rfl (fun K hK => ?_) ?_
              · have q0 := blk_cell PP169.out (j := 0) (u := .slice none 0 0) rfl
                have q1 := blk_cell PP169.out (j := 1) (u := .slice none 0 0) rfl
                obtain ⟨q0, f0⟩ := q0
                obtain ⟨q1, f1⟩ := q1
                go_simp
                refine hK.out _ _ ?_ (fun hHeld => ?_)
                · exact ⟨(((KK168.out.setCell (p := ⟨w3.heap.size, 0, none⟩) (by dsimp only; omega) _).setCell (p := ⟨w3.heap.size, 1, none⟩) (by dsimp only; omega) _).cell (p := ⟨w.heap.size, 0, none⟩) (by dsimp only; omega)).trans c1, (((KK168.out.setCell (p := ⟨w3.heap.size, 0, none⟩) (by dsimp only; omega) _).setCell (p := ⟨w3.heap.size, 1, none⟩) (by dsimp only; omega) _).cell (p := ⟨w.heap.size, 1, none⟩) (by dsimp only; omega)).trans c2, ((KK168.out.setCell (p := ⟨w3.heap.size, 0, none⟩) (by dsimp only; omega) _).setCell (p := ⟨w3.heap.size, 1, none⟩) (by dsimp only; omega) _)⟩
                clear hK K
                try simp only [Act.put, List.setIfInBounds_toArray, List.set_cons_zero, List.set_cons_succ]
                refine wpAnyH_done (by kernel_rfl) ?_ _
                go_wp2_with fail
                go_meet
                have hrow := EE170.out
                rw [← FL1.out] at hrow
                obtain ⟨_, _, hvD, _, hcD, _⟩ := cor_of_row hrow
                simp only [Value.slice.injEq] at hvD
                obtain ⟨rfl, _, rfl⟩ := hvD
                exact box_out (n) (m + 1) HN.out HM1.out PP169.out ((HIN3.out.rv.step KK168.out).more KK168.out.size) hcD (HIN3.out.rv.lt (by omega)) (own_ne (fun e => by cases apD.own with | inl k => (rw [k] at e; first | (have h := (apB.row.lt _ e).2; omega) | (rcases apB.own with k2 | k2 <;> (rw [k2] at e; simp [Value.ownBlock] at e; try omega))) | inr k => (first | (have h := (apD.row.lt _ e).2; omega) | (rw [k] at e; simp [Value.ownBlock] at e; try omega)))) (by omega) KK168.out
              exact AllReadyH.nil
            exact AllReadyH.nil
          exact AllReadyH.nil
        exact AllReadyH.nil
      exact AllReadyH.nil
    exact AllReadyH.nil
  case rest =>
    obtain ⟨w4, hw4⟩ : ∃ w4 : World, w4 = wc := ⟨_, rfl⟩
    subst hw4
    obtain ⟨g5, A5, k5, M5, d5, rfl, ⟨c3, c4⟩, hv5, hc5, ⟨hg5, hl5⟩, h4⟩ := hcut
    rw [HM1.out] at c4
    rw [HN.out] at c3
    replace c1 := (h4.cell (by (try dsimp only); omega)).trans c1
    replace c2 := (h4.cell (by (try dsimp only); omega)).trans c2
    replace hb := hb.trans (h4.mono hb.size)
    have z4 := h4.size
    have HIN4 := Lib.hid (HIN.out.calls hb)
    have HC4 := Lib.hid hc5
    have HV4 := Lib.hid hv5
    clear hc5 hv5 h4
    go_upto_region 4 with fail
    go_cut [6] (fun s6 z => BoxOut w4 (vs ++ [v]) (ps ++ [zP]) s6 z)
    case first =>
      have KK0 := Lib.hid (show Below w4.heap.size w4 w4.drew from (Below.refl _ _).drew)
      refine wp_region_held_drew (S := fun z => z.cell? ⟨w.heap.size, 0, none⟩ = some (.slice A n cv) ∧ z.cell? ⟨g5, 1, none⟩ = some (.slice M5 (m + 1) d5) ∧ Below w4.heap.size w4 z) (by kernel_rfl) ⟨(KK0.out.cell (p := ⟨w.heap.size, 0, none⟩) (by dsimp only; omega)).trans c1, (KK0.out.cell (p := ⟨g5, 1, none⟩) (by dsimp only; omega)).trans c4, KK0.out⟩ (fun hHeld => ?_)
      refine wpAnyH_take (i := 1) (oi := ⟨some 40, _, _, _, _, _⟩) (v := ?_) rfl (by kernel_rfl) (by kernel_rfl) (by kernel_rfl) (fun _ _ _ h => h) (Or.inl ⟨by rfl, ?_⟩) (by assumption) ?_
      rotate_left
      · (intro w hSw; (try dsimp only at hSw); go_simp; (try with_reducible rfl))
      try simp only [Act.put, List.setIfInBounds_toArray, List.set_cons_zero, List.set_cons_succ]
      refine wpAnyH_take (i := 2) (oi := ⟨some 41, _, _, _, _, _⟩) (v := ?_) rfl (by kernel_rfl) (by kernel_rfl) (by kernel_rfl) (fun _ _ _ h => h) (Or.inl ⟨by rfl, ?_⟩) (by assumption) ?_
      rotate_left
      · (intro w hSw; (try dsimp only at hSw); go_simp; (try with_reducible rfl))
      try simp only [Act.put, List.setIfInBounds_toArray, List.set_cons_zero, List.set_cons_succ]
      refine wpAnyH_take (i := 4) (oi := ⟨some 43, _, _, _, _, _⟩) (v := ?_) rfl (by kernel_rfl) (by kernel_rfl) (by kernel_rfl) (fun _ _ _ h => h) (Or.inl ⟨by rfl, ?_⟩) (by assumption) ?_
      rotate_left
      · (intro w hSw; (try dsimp only at hSw); go_simp; (try with_reducible rfl))
      try simp only [Act.put, List.setIfInBounds_toArray, List.set_cons_zero, List.set_cons_succ]
      refine wpAnyH_take (i := 7) (oi := ⟨some 46, _, _, _, _, _⟩) (v := ?_) rfl (by kernel_rfl) (by kernel_rfl) (by kernel_rfl) (fun _ _ _ h => h) (Or.inl ⟨by rfl, ?_⟩) (by assumption) ?_
      rotate_left
      · (intro w hSw; (try dsimp only at hSw); go_simp; (try with_reducible rfl))
      try simp only [Act.put, List.setIfInBounds_toArray, List.set_cons_zero, List.set_cons_succ]
      refine wpAnyH_take (i := 8) (oi := ⟨some 47, _, _, _, _, _⟩) (v := ?_) rfl (by kernel_rfl) (by kernel_rfl) (by kernel_rfl) (fun _ _ _ h => h) (Or.inl ⟨by rfl, ?_⟩) (by assumption) ?_
      rotate_left
      · (intro w hSw; (try dsimp only at hSw); go_simp; (try with_reducible rfl))
      try simp only [Act.put, List.setIfInBounds_toArray, List.set_cons_zero, List.set_cons_succ]
      refine wpAnyH_ready (rs := [0, 5, 10]) (by kernel_rfl) (by simp) ?_
      refine AllReadyH.cons (o := ⟨some 39, _, _, _, _, _⟩) rfl (fun K hK => ?_) ?_
      · go_simp
        refine hK.out _ _ ?_ (fun hHeld => ?_)
        · exact ⟨((KK0.out.alloc KK0.out.size _).cell (p := ⟨w.heap.size, 0, none⟩) (by dsimp only; omega)).trans c1, ((KK0.out.alloc KK0.out.size _).cell (p := ⟨g5, 1, none⟩) (by dsimp only; omega)).trans c4, (KK0.out.alloc KK0.out.size _)⟩
        clear hK K
        try simp only [Act.put, List.setIfInBounds_toArray, List.set_cons_zero, List.set_cons_succ]
        have KK1 := Lib.hid (KK0.out.alloc KK0.out.size (Obj.cells #[] 3))
        have EE2 := Lib.hid (own_made' w4.drew 3 (w4.heap.size) 1 (w4.heap.size) (by first | (simp; done) | (simp; omega) | omega) KK0.out.size)
        refine wpAnyH_ready (rs := [3, 5, 10]) (by kernel_rfl) (by simp) ?_
        refine AllReadyH.cons (o := ⟨some 42, _, _, _, _, _⟩) rfl (fun K hK => ?_) ?_
        · refine step_append_full (by rfl) _ _ (by rfl) w4.heap.size i0 _ 1 8 und_is und_is h0z h0a h0b h0c rfl (by omega) (.slice (some ⟨w4.heap.size, 0, none⟩) 0 0) 0 [] (by rfl) EE2.out A n cv (vs.map iV) (by rfl) FLV (ints_news (HIN4.out.rv.step KK1.out)) (ints_one vs) (HIN4.out.nv) (by simp [maxLen]; omega) (by omega) (KK1.out.size) ?_
          intro aB cB wB apB
          simp only [Nat.zero_add, List.nil_append] at apB ⊢
          have KK3 := Lib.hid (KK1.out.grown apB.grew KK1.out.size (fun k e => (EE2.out.lt k e).1))
          have zB : w4.heap.size + 1 ≤ wB.heap.size := by have h := apB.grew.size; (try simp at h); omega
          have EE4 := Lib.hid apB.row
          refine hK.out _ _ ?_ (fun hHeld => ?_)
          · exact ⟨(KK3.out.cell (p := ⟨w.heap.size, 0, none⟩) (by dsimp only; omega)).trans c1, (KK3.out.cell (p := ⟨g5, 1, none⟩) (by dsimp only; omega)).trans c4, KK3.out⟩
          clear hK K
          try simp only [Act.put, List.setIfInBounds_toArray, List.set_cons_zero, List.set_cons_succ]
          refine wpAnyH_ready (rs := [5, 10]) (by kernel_rfl) (by simp) ?_
          refine AllReadyH.cons (o := ⟨some 44, _, _, _, _, _⟩) rfl (fun K hK => ?_) ?_
          · go_simp
            refine hK.out _ _ ?_ (fun hHeld => ?_)
            · exact ⟨((KK3.out.alloc KK3.out.size _).cell (p := ⟨w.heap.size, 0, none⟩) (by dsimp only; omega)).trans c1, ((KK3.out.alloc KK3.out.size _).cell (p := ⟨g5, 1, none⟩) (by dsimp only; omega)).trans c4, (KK3.out.alloc KK3.out.size _)⟩
            clear hK K
            try simp only [Act.put, List.setIfInBounds_toArray, List.set_cons_zero, List.set_cons_succ]
            have KK5 := Lib.hid (KK3.out.alloc KK3.out.size (Obj.cells #[.int .i64 v] 3))
            have EE6 := Lib.hid (EE4.out.alloc (Obj.cells #[.int .i64 v] 3))
            have NN7 := Lib.hid (blk_new wB (Obj.cells #[.int .i64 v] 3) (wB.heap.size) (by first | (simp; done) | (simp; omega) | omega))
            refine wpAnyH_ready (rs := [6, 10]) (by kernel_rfl) (by simp) ?_
            refine AllReadyH.cons (o := ⟨some 45, _, _, _, _, _⟩) rfl (fun K hK => ?_) ?_
            · refine step_append_full (by rfl) _ _ (by rfl) w4.heap.size i0 _ 1 8 und_is und_is h0z h0a h0b h0c rfl (by omega) (.slice aB (n) cB) (n) (vs.map iV) (by rfl) EE6.out (some ⟨wB.heap.size, 0, none⟩) 1 1 [.int .i64 v] (by rfl) (by rfl) (fun j u hu => ⟨_, rfl, World.news_of_block (cs := #[.int .i64 v]) (t := 3) (fr := (0, 0)) NN7.out j u hu⟩) (by simp [Value.oneCell']) (by simp) (by simp [maxLen]; omega) (by omega) (KK5.out.size) ?_
              intro aD cD wD apD
              have KK8 := Lib.hid (KK5.out.grown apD.grew KK5.out.size (fun k e => (EE6.out.lt k e).1))
              have zD : wB.heap.size + 1 ≤ wD.heap.size := by have h := apD.grew.size; (try simp at h); omega
              have EE9 := Lib.hid apD.row
              refine hK.out _ _ ?_ (fun hHeld => ?_)
              · exact ⟨(KK8.out.cell (p := ⟨w.heap.size, 0, none⟩) (by dsimp only; omega)).trans c1, (KK8.out.cell (p := ⟨g5, 1, none⟩) (by dsimp only; omega)).trans c4, KK8.out⟩
              clear hK K
              try simp only [Act.put, List.setIfInBounds_toArray, List.set_cons_zero, List.set_cons_succ]
              refine wpAnyH_take (i := 9) (oi := ⟨some 48, _, _, _, _, _⟩) (v := ?_) rfl (by kernel_rfl) (by kernel_rfl) (by kernel_rfl) (fun _ _ _ h => h) (Or.inl ⟨by rfl, ?_⟩) (by assumption) ?_
              rotate_left
              · (intro w hSw; (try dsimp only at hSw); go_simp; (try with_reducible rfl))
              try simp only [Act.put, List.setIfInBounds_toArray, List.set_cons_zero, List.set_cons_succ]
              refine wpAnyH_ready (rs := [10]) (by kernel_rfl) (by simp) ?_
              refine AllReadyH.cons (o := ⟨some 6, _, _, _, _, _⟩) rfl (fun K hK => ?_) ?_
              · go_simp
                refine hK.out _ _ ?_ (fun hHeld => ?_)
                · exact ⟨((KK8.out.alloc KK8.out.size _).cell (p := ⟨w.heap.size, 0, none⟩) (by dsimp only; omega)).trans c1, ((KK8.out.alloc KK8.out.size _).cell (p := ⟨g5, 1, none⟩) (by dsimp only; omega)).trans c4, (KK8.out.alloc KK8.out.size _)⟩
                clear hK K
                try simp only [Act.put, List.setIfInBounds_toArray, List.set_cons_zero, List.set_cons_succ]
                have KK10 := Lib.hid (KK8.out.alloc KK8.out.size (Obj.cells #[.slice none 0 0, .slice none 0 0] 25))
                have EE11 := Lib.hid (EE9.out.alloc (Obj.cells #[.slice none 0 0, .slice none 0 0] 25))
                have NN12 := Lib.hid (blk_alloc NN7.out (Obj.cells #[.slice none 0 0, .slice none 0 0] 25))
                have PP13 := Lib.hid (blk_new wD (Obj.cells #[.slice none 0 0, .slice none 0 0] 25) (wD.heap.size) (by first | (simp; done) | (simp; omega) | omega))
                refine wpAnyH_ready (rs := [11]) (by kernel_rfl) (by simp) ?_
                refine AllReadyH.cons (o := ⟨none, _, _, _, _, _⟩) rfl (fun K hK => ?_) ?_
                · have q0 := blk_cell PP13.out (j := 0) (u := .slice none 0 0) rfl
                  have q1 := blk_cell PP13.out (j := 1) (u := .slice none 0 0) rfl
                  obtain ⟨q0, f0⟩ := q0
                  obtain ⟨q1, f1⟩ := q1
                  go_simp
                  refine hK.out _ _ ?_ (fun hHeld => ?_)
                  · exact ⟨((KK8.out.alloc KK8.out.size _).cell (p := ⟨w.heap.size, 0, none⟩) (by dsimp only; omega)).trans c1, ((KK8.out.alloc KK8.out.size _).cell (p := ⟨g5, 1, none⟩) (by dsimp only; omega)).trans c4, (KK8.out.alloc KK8.out.size _)⟩
                  clear hK K
                  try simp only [Act.put, List.setIfInBounds_toArray, List.set_cons_zero, List.set_cons_succ]
                  refine wpAnyH_done (by kernel_rfl) ?_ _
                  go_wp2_with fail
                  go_meet
                  have hrow := EE9.out
                  rw [← FL2.out] at hrow
                  obtain ⟨_, _, hvD, _, hcD⟩ := vals_of_row hrow
                  simp only [Value.slice.injEq] at hvD
                  obtain ⟨rfl, _, rfl⟩ := hvD
                  exact box_new (n + 1) (m + 1) HN1.out HM1.out hcD ((HC4.out.step KK8.out).more KK8.out.size) ((by first | (simp; done) | (simp; omega) | omega)) (own_ne (fun e => by cases apD.own with | inl k => (rw [k] at e; first | (have h := (apB.row.lt _ e).2; omega) | (rcases apB.own with k2 | k2 <;> (rw [k2] at e; simp [Value.ownBlock] at e; try omega))) | inr k => (first | (have h := (apD.row.lt _ e).2; omega) | (rw [k] at e; simp [Value.ownBlock] at e; try omega)))) (HC4.out.lt (by omega)) KK8.out.size KK8.out
                exact AllReadyH.nil
              exact AllReadyH.nil
            refine AllReadyH.cons (o := ⟨some 6, _, _, _, _, _⟩) rfl (fun K hK => ?_) ?_
            · go_simp
              refine hK.out _ _ ?_ (fun hHeld => ?_)
              · exact ⟨((KK5.out.alloc KK5.out.size _).cell (p := ⟨w.heap.size, 0, none⟩) (by dsimp only; omega)).trans c1, ((KK5.out.alloc KK5.out.size _).cell (p := ⟨g5, 1, none⟩) (by dsimp only; omega)).trans c4, (KK5.out.alloc KK5.out.size _)⟩
              clear hK K
              try simp only [Act.put, List.setIfInBounds_toArray, List.set_cons_zero, List.set_cons_succ]
              have KK14 := Lib.hid (KK5.out.alloc KK5.out.size (Obj.cells #[.slice none 0 0, .slice none 0 0] 25))
              have EE15 := Lib.hid (EE6.out.alloc (Obj.cells #[.slice none 0 0, .slice none 0 0] 25))
              have NN16 := Lib.hid (blk_alloc NN7.out (Obj.cells #[.slice none 0 0, .slice none 0 0] 25))
              have PP17 := Lib.hid (blk_new (wB.alloc (Obj.cells #[.int .i64 v] 3)) (Obj.cells #[.slice none 0 0, .slice none 0 0] 25) (wB.heap.size + 1) (by first | (simp; done) | (simp; omega) | omega))
              refine wpAnyH_ready (rs := [6]) (by kernel_rfl) (by simp) ?_
              refine AllReadyH.cons (o := ⟨some 45, _, _, _, _, _⟩) rfl (fun K hK => ?_) ?_
              · refine step_append_full (by rfl) _ _ (by rfl) w4.heap.size i0 _ 1 8 und_is und_is h0z h0a h0b h0c rfl (by omega) (.slice aB (n) cB) (n) (vs.map iV) (by rfl) EE15.out (some ⟨wB.heap.size, 0, none⟩) 1 1 [.int .i64 v] (by rfl) (by rfl) (fun j u hu => ⟨_, rfl, World.news_of_block (cs := #[.int .i64 v]) (t := 3) (fr := (0, 0)) NN16.out j u hu⟩) (by simp [Value.oneCell']) (by simp) (by simp [maxLen]; omega) (by omega) (KK14.out.size) ?_
                intro aD cD wD apD
                have KK18 := Lib.hid (KK14.out.grown apD.grew KK14.out.size (fun k e => (EE15.out.lt k e).1))
                have zD : wB.heap.size + 1 + 1 ≤ wD.heap.size := by have h := apD.grew.size; (try simp at h); omega
                have PP19 := Lib.hid ((apD.grew.block (wB.heap.size + 1) (by first | (simp; done) | (simp; omega) | omega) (fun e => by first | (have h := (apB.row.lt _ e.symm).2; omega) | (rcases apB.own with k | k <;> (rw [k] at e; simp [Value.ownBlock] at e; try omega)))).trans PP17.out)
                have EE20 := Lib.hid apD.row
                refine hK.out _ _ ?_ (fun hHeld => ?_)
                · exact ⟨(KK18.out.cell (p := ⟨w.heap.size, 0, none⟩) (by dsimp only; omega)).trans c1, (KK18.out.cell (p := ⟨g5, 1, none⟩) (by dsimp only; omega)).trans c4, KK18.out⟩
                clear hK K
                try simp only [Act.put, List.setIfInBounds_toArray, List.set_cons_zero, List.set_cons_succ]
                refine wpAnyH_take (i := 9) (oi := ⟨some 48, _, _, _, _, _⟩) (v := ?_) rfl (by kernel_rfl) (by kernel_rfl) (by kernel_rfl) (fun _ _ _ h => h) (Or.inl ⟨by rfl, ?_⟩) (by assumption) ?_
                rotate_left
                · (intro w hSw; (try dsimp only at hSw); go_simp; (try with_reducible rfl))
                try simp only [Act.put, List.setIfInBounds_toArray, List.set_cons_zero, List.set_cons_succ]
                refine wpAnyH_ready (rs := [11]) (by kernel_rfl) (by simp) ?_
                refine AllReadyH.cons (o := ⟨none, _, _, _, _, _⟩) rfl (fun K hK => ?_) ?_
                · have q0 := blk_cell PP19.out (j := 0) (u := .slice none 0 0) rfl
                  have q1 := blk_cell PP19.out (j := 1) (u := .slice none 0 0) rfl
                  obtain ⟨q0, f0⟩ := q0
                  obtain ⟨q1, f1⟩ := q1
                  go_simp
                  refine hK.out _ _ ?_ (fun hHeld => ?_)
                  · exact ⟨(((KK18.out.setCell (p := ⟨wB.heap.size + 1, 0, none⟩) (by dsimp only; omega) _).setCell (p := ⟨wB.heap.size + 1, 1, none⟩) (by dsimp only; omega) _).cell (p := ⟨w.heap.size, 0, none⟩) (by dsimp only; omega)).trans c1, (((KK18.out.setCell (p := ⟨wB.heap.size + 1, 0, none⟩) (by dsimp only; omega) _).setCell (p := ⟨wB.heap.size + 1, 1, none⟩) (by dsimp only; omega) _).cell (p := ⟨g5, 1, none⟩) (by dsimp only; omega)).trans c4, ((KK18.out.setCell (p := ⟨wB.heap.size + 1, 0, none⟩) (by dsimp only; omega) _).setCell (p := ⟨wB.heap.size + 1, 1, none⟩) (by dsimp only; omega) _)⟩
                  clear hK K
                  try simp only [Act.put, List.setIfInBounds_toArray, List.set_cons_zero, List.set_cons_succ]
                  refine wpAnyH_done (by kernel_rfl) ?_ _
                  go_wp2_with fail
                  go_meet
                  have hrow := EE20.out
                  rw [← FL2.out] at hrow
                  obtain ⟨_, _, hvD, _, hcD⟩ := vals_of_row hrow
                  simp only [Value.slice.injEq] at hvD
                  obtain ⟨rfl, _, rfl⟩ := hvD
                  exact box_out (n + 1) (m + 1) HN1.out HM1.out PP19.out hcD ((HC4.out.step KK18.out).more KK18.out.size) (own_ne (fun e => by cases apD.own with | inl k => (rw [k] at e; first | (have h := (apB.row.lt _ e).2; omega) | (rcases apB.own with k2 | k2 <;> (rw [k2] at e; simp [Value.ownBlock] at e; try omega))) | inr k => (first | (have h := (apD.row.lt _ e).2; omega) | (rw [k] at e; simp [Value.ownBlock] at e; try omega)))) (HC4.out.lt (by omega)) (by omega) KK18.out
                exact AllReadyH.nil
              exact AllReadyH.nil
            exact AllReadyH.nil
          refine AllReadyH.cons (o := ⟨some 6, _, _, _, _, _⟩) rfl (fun K hK => ?_) ?_
          · go_simp
            refine hK.out _ _ ?_ (fun hHeld => ?_)
            · exact ⟨((KK3.out.alloc KK3.out.size _).cell (p := ⟨w.heap.size, 0, none⟩) (by dsimp only; omega)).trans c1, ((KK3.out.alloc KK3.out.size _).cell (p := ⟨g5, 1, none⟩) (by dsimp only; omega)).trans c4, (KK3.out.alloc KK3.out.size _)⟩
            clear hK K
            try simp only [Act.put, List.setIfInBounds_toArray, List.set_cons_zero, List.set_cons_succ]
            have KK21 := Lib.hid (KK3.out.alloc KK3.out.size (Obj.cells #[.slice none 0 0, .slice none 0 0] 25))
            have EE22 := Lib.hid (EE4.out.alloc (Obj.cells #[.slice none 0 0, .slice none 0 0] 25))
            have PP23 := Lib.hid (blk_new wB (Obj.cells #[.slice none 0 0, .slice none 0 0] 25) (wB.heap.size) (by first | (simp; done) | (simp; omega) | omega))
            refine wpAnyH_ready (rs := [5]) (by kernel_rfl) (by simp) ?_
            refine AllReadyH.cons (o := ⟨some 44, _, _, _, _, _⟩) rfl (fun K hK => ?_) ?_
            · go_simp
              refine hK.out _ _ ?_ (fun hHeld => ?_)
              · exact ⟨((KK21.out.alloc KK21.out.size _).cell (p := ⟨w.heap.size, 0, none⟩) (by dsimp only; omega)).trans c1, ((KK21.out.alloc KK21.out.size _).cell (p := ⟨g5, 1, none⟩) (by dsimp only; omega)).trans c4, (KK21.out.alloc KK21.out.size _)⟩
              clear hK K
              try simp only [Act.put, List.setIfInBounds_toArray, List.set_cons_zero, List.set_cons_succ]
              have KK24 := Lib.hid (KK21.out.alloc KK21.out.size (Obj.cells #[.int .i64 v] 3))
              have EE25 := Lib.hid (EE22.out.alloc (Obj.cells #[.int .i64 v] 3))
              have PP26 := Lib.hid (blk_alloc PP23.out (Obj.cells #[.int .i64 v] 3))
              have NN27 := Lib.hid (blk_new (wB.alloc (Obj.cells #[.slice none 0 0, .slice none 0 0] 25)) (Obj.cells #[.int .i64 v] 3) (wB.heap.size + 1) (by first | (simp; done) | (simp; omega) | omega))
              refine wpAnyH_ready (rs := [6]) (by kernel_rfl) (by simp) ?_
              refine AllReadyH.cons (o := ⟨some 45, _, _, _, _, _⟩) rfl (fun K hK => ?_) ?_
              · refine step_append_full (by rfl) _ _ (by rfl) w4.heap.size i0 _ 1 8 und_is und_is h0z h0a h0b h0c rfl (by omega) (.slice aB (n) cB) (n) (vs.map iV) (by rfl) EE25.out (some ⟨wB.heap.size + 1, 0, none⟩) 1 1 [.int .i64 v] (by rfl) (by rfl) (fun j u hu => ⟨_, rfl, World.news_of_block (cs := #[.int .i64 v]) (t := 3) (fr := (0, 0)) NN27.out j u hu⟩) (by simp [Value.oneCell']) (by simp) (by simp [maxLen]; omega) (by omega) (KK24.out.size) ?_
                intro aD cD wD apD
                have KK28 := Lib.hid (KK24.out.grown apD.grew KK24.out.size (fun k e => (EE25.out.lt k e).1))
                have zD : wB.heap.size + 1 + 1 ≤ wD.heap.size := by have h := apD.grew.size; (try simp at h); omega
                have PP29 := Lib.hid ((apD.grew.block (wB.heap.size) (by first | (simp; done) | (simp; omega) | omega) (fun e => by first | (have h := (apB.row.lt _ e.symm).2; omega) | (rcases apB.own with k | k <;> (rw [k] at e; simp [Value.ownBlock] at e; try omega)))).trans PP26.out)
                have EE30 := Lib.hid apD.row
                refine hK.out _ _ ?_ (fun hHeld => ?_)
                · exact ⟨(KK28.out.cell (p := ⟨w.heap.size, 0, none⟩) (by dsimp only; omega)).trans c1, (KK28.out.cell (p := ⟨g5, 1, none⟩) (by dsimp only; omega)).trans c4, KK28.out⟩
                clear hK K
                try simp only [Act.put, List.setIfInBounds_toArray, List.set_cons_zero, List.set_cons_succ]
                refine wpAnyH_take (i := 9) (oi := ⟨some 48, _, _, _, _, _⟩) (v := ?_) rfl (by kernel_rfl) (by kernel_rfl) (by kernel_rfl) (fun _ _ _ h => h) (Or.inl ⟨by rfl, ?_⟩) (by assumption) ?_
                rotate_left
                · (intro w hSw; (try dsimp only at hSw); go_simp; (try with_reducible rfl))
                try simp only [Act.put, List.setIfInBounds_toArray, List.set_cons_zero, List.set_cons_succ]
                refine wpAnyH_ready (rs := [11]) (by kernel_rfl) (by simp) ?_
                refine AllReadyH.cons (o := ⟨none, _, _, _, _, _⟩) rfl (fun K hK => ?_) ?_
                · have q0 := blk_cell PP29.out (j := 0) (u := .slice none 0 0) rfl
                  have q1 := blk_cell PP29.out (j := 1) (u := .slice none 0 0) rfl
                  obtain ⟨q0, f0⟩ := q0
                  obtain ⟨q1, f1⟩ := q1
                  go_simp
                  refine hK.out _ _ ?_ (fun hHeld => ?_)
                  · exact ⟨(((KK28.out.setCell (p := ⟨wB.heap.size, 0, none⟩) (by dsimp only; omega) _).setCell (p := ⟨wB.heap.size, 1, none⟩) (by dsimp only; omega) _).cell (p := ⟨w.heap.size, 0, none⟩) (by dsimp only; omega)).trans c1, (((KK28.out.setCell (p := ⟨wB.heap.size, 0, none⟩) (by dsimp only; omega) _).setCell (p := ⟨wB.heap.size, 1, none⟩) (by dsimp only; omega) _).cell (p := ⟨g5, 1, none⟩) (by dsimp only; omega)).trans c4, ((KK28.out.setCell (p := ⟨wB.heap.size, 0, none⟩) (by dsimp only; omega) _).setCell (p := ⟨wB.heap.size, 1, none⟩) (by dsimp only; omega) _)⟩
                  clear hK K
                  try simp only [Act.put, List.setIfInBounds_toArray, List.set_cons_zero, List.set_cons_succ]
                  refine wpAnyH_done (by kernel_rfl) ?_ _
                  go_wp2_with fail
                  go_meet
                  have hrow := EE30.out
                  rw [← FL2.out] at hrow
                  obtain ⟨_, _, hvD, _, hcD⟩ := vals_of_row hrow
                  simp only [Value.slice.injEq] at hvD
                  obtain ⟨rfl, _, rfl⟩ := hvD
                  exact box_out (n + 1) (m + 1) HN1.out HM1.out PP29.out hcD ((HC4.out.step KK28.out).more KK28.out.size) (own_ne (fun e => by cases apD.own with | inl k => (rw [k] at e; first | (have h := (apB.row.lt _ e).2; omega) | (rcases apB.own with k2 | k2 <;> (rw [k2] at e; simp [Value.ownBlock] at e; try omega))) | inr k => (first | (have h := (apD.row.lt _ e).2; omega) | (rw [k] at e; simp [Value.ownBlock] at e; try omega)))) (HC4.out.lt (by omega)) (by omega) KK28.out
                exact AllReadyH.nil
              exact AllReadyH.nil
            exact AllReadyH.nil
          exact AllReadyH.nil
        refine AllReadyH.cons (o := ⟨some 44, _, _, _, _, _⟩) rfl (fun K hK => ?_) ?_
        · go_simp
          refine hK.out _ _ ?_ (fun hHeld => ?_)
          · exact ⟨((KK1.out.alloc KK1.out.size _).cell (p := ⟨w.heap.size, 0, none⟩) (by dsimp only; omega)).trans c1, ((KK1.out.alloc KK1.out.size _).cell (p := ⟨g5, 1, none⟩) (by dsimp only; omega)).trans c4, (KK1.out.alloc KK1.out.size _)⟩
          clear hK K
          try simp only [Act.put, List.setIfInBounds_toArray, List.set_cons_zero, List.set_cons_succ]
          have KK31 := Lib.hid (KK1.out.alloc KK1.out.size (Obj.cells #[.int .i64 v] 3))
          have EE32 := Lib.hid (EE2.out.alloc (Obj.cells #[.int .i64 v] 3))
          have NN33 := Lib.hid (blk_new (w4.drew.alloc (Obj.cells #[] 3)) (Obj.cells #[.int .i64 v] 3) (w4.heap.size + 1) (by first | (simp; done) | (simp; omega) | omega))
          refine wpAnyH_ready (rs := [3, 10]) (by kernel_rfl) (by simp) ?_
          refine AllReadyH.cons (o := ⟨some 42, _, _, _, _, _⟩) rfl (fun K hK => ?_) ?_
          · refine step_append_full (by rfl) _ _ (by rfl) w4.heap.size i0 _ 1 8 und_is und_is h0z h0a h0b h0c rfl (by omega) (.slice (some ⟨w4.heap.size, 0, none⟩) 0 0) 0 [] (by rfl) EE32.out A n cv (vs.map iV) (by rfl) FLV (ints_news (HIN4.out.rv.step KK31.out)) (ints_one vs) (HIN4.out.nv) (by simp [maxLen]; omega) (by omega) (KK31.out.size) ?_
            intro aB cB wB apB
            simp only [Nat.zero_add, List.nil_append] at apB ⊢
            have KK34 := Lib.hid (KK31.out.grown apB.grew KK31.out.size (fun k e => (EE32.out.lt k e).1))
            have zB : w4.heap.size + 1 + 1 ≤ wB.heap.size := by have h := apB.grew.size; (try simp at h); omega
            have NN35 := Lib.hid ((apB.grew.block (w4.heap.size + 1) (by first | (simp; done) | (simp; omega) | omega) (by first | (simp [Value.ownBlock]; done) | (simp [Value.ownBlock]; omega))).trans NN33.out)
            have EE36 := Lib.hid apB.row
            refine hK.out _ _ ?_ (fun hHeld => ?_)
            · exact ⟨(KK34.out.cell (p := ⟨w.heap.size, 0, none⟩) (by dsimp only; omega)).trans c1, (KK34.out.cell (p := ⟨g5, 1, none⟩) (by dsimp only; omega)).trans c4, KK34.out⟩
            clear hK K
            try simp only [Act.put, List.setIfInBounds_toArray, List.set_cons_zero, List.set_cons_succ]
            refine wpAnyH_ready (rs := [6, 10]) (by kernel_rfl) (by simp) ?_
            refine AllReadyH.cons (o := ⟨some 45, _, _, _, _, _⟩) rfl (fun K hK => ?_) ?_
            · refine step_append_full (by rfl) _ _ (by rfl) w4.heap.size i0 _ 1 8 und_is und_is h0z h0a h0b h0c rfl (by omega) (.slice aB (n) cB) (n) (vs.map iV) (by rfl) EE36.out (some ⟨w4.heap.size + 1, 0, none⟩) 1 1 [.int .i64 v] (by rfl) (by rfl) (fun j u hu => ⟨_, rfl, World.news_of_block (cs := #[.int .i64 v]) (t := 3) (fr := (0, 0)) NN35.out j u hu⟩) (by simp [Value.oneCell']) (by simp) (by simp [maxLen]; omega) (by omega) (KK34.out.size) ?_
              intro aD cD wD apD
              have KK37 := Lib.hid (KK34.out.grown apD.grew KK34.out.size (fun k e => (EE36.out.lt k e).1))
              have zD : wB.heap.size ≤ wD.heap.size := by have h := apD.grew.size; (try simp at h); omega
              have EE38 := Lib.hid apD.row
              refine hK.out _ _ ?_ (fun hHeld => ?_)
              · exact ⟨(KK37.out.cell (p := ⟨w.heap.size, 0, none⟩) (by dsimp only; omega)).trans c1, (KK37.out.cell (p := ⟨g5, 1, none⟩) (by dsimp only; omega)).trans c4, KK37.out⟩
              clear hK K
              try simp only [Act.put, List.setIfInBounds_toArray, List.set_cons_zero, List.set_cons_succ]
              refine wpAnyH_take (i := 9) (oi := ⟨some 48, _, _, _, _, _⟩) (v := ?_) rfl (by kernel_rfl) (by kernel_rfl) (by kernel_rfl) (fun _ _ _ h => h) (Or.inl ⟨by rfl, ?_⟩) (by assumption) ?_
              rotate_left
              · (intro w hSw; (try dsimp only at hSw); go_simp; (try with_reducible rfl))
              try simp only [Act.put, List.setIfInBounds_toArray, List.set_cons_zero, List.set_cons_succ]
              refine wpAnyH_ready (rs := [10]) (by kernel_rfl) (by simp) ?_
              refine AllReadyH.cons (o := ⟨some 6, _, _, _, _, _⟩) rfl (fun K hK => ?_) ?_
              · go_simp
                refine hK.out _ _ ?_ (fun hHeld => ?_)
                · exact ⟨((KK37.out.alloc KK37.out.size _).cell (p := ⟨w.heap.size, 0, none⟩) (by dsimp only; omega)).trans c1, ((KK37.out.alloc KK37.out.size _).cell (p := ⟨g5, 1, none⟩) (by dsimp only; omega)).trans c4, (KK37.out.alloc KK37.out.size _)⟩
                clear hK K
                try simp only [Act.put, List.setIfInBounds_toArray, List.set_cons_zero, List.set_cons_succ]
                have KK39 := Lib.hid (KK37.out.alloc KK37.out.size (Obj.cells #[.slice none 0 0, .slice none 0 0] 25))
                have EE40 := Lib.hid (EE38.out.alloc (Obj.cells #[.slice none 0 0, .slice none 0 0] 25))
                have NN41 := Lib.hid (blk_alloc NN35.out (Obj.cells #[.slice none 0 0, .slice none 0 0] 25))
                have PP42 := Lib.hid (blk_new wD (Obj.cells #[.slice none 0 0, .slice none 0 0] 25) (wD.heap.size) (by first | (simp; done) | (simp; omega) | omega))
                refine wpAnyH_ready (rs := [11]) (by kernel_rfl) (by simp) ?_
                refine AllReadyH.cons (o := ⟨none, _, _, _, _, _⟩) rfl (fun K hK => ?_) ?_
                · have q0 := blk_cell PP42.out (j := 0) (u := .slice none 0 0) rfl
                  have q1 := blk_cell PP42.out (j := 1) (u := .slice none 0 0) rfl
                  obtain ⟨q0, f0⟩ := q0
                  obtain ⟨q1, f1⟩ := q1
                  go_simp
                  refine hK.out _ _ ?_ (fun hHeld => ?_)
                  · exact ⟨((KK37.out.alloc KK37.out.size _).cell (p := ⟨w.heap.size, 0, none⟩) (by dsimp only; omega)).trans c1, ((KK37.out.alloc KK37.out.size _).cell (p := ⟨g5, 1, none⟩) (by dsimp only; omega)).trans c4, (KK37.out.alloc KK37.out.size _)⟩
                  clear hK K
                  try simp only [Act.put, List.setIfInBounds_toArray, List.set_cons_zero, List.set_cons_succ]
                  refine wpAnyH_done (by kernel_rfl) ?_ _
                  go_wp2_with fail
                  go_meet
                  have hrow := EE38.out
                  rw [← FL2.out] at hrow
                  obtain ⟨_, _, hvD, _, hcD⟩ := vals_of_row hrow
                  simp only [Value.slice.injEq] at hvD
                  obtain ⟨rfl, _, rfl⟩ := hvD
                  exact box_new (n + 1) (m + 1) HN1.out HM1.out hcD ((HC4.out.step KK37.out).more KK37.out.size) ((by first | (simp; done) | (simp; omega) | omega)) (own_ne (fun e => by cases apD.own with | inl k => (rw [k] at e; first | (have h := (apB.row.lt _ e).2; omega) | (rcases apB.own with k2 | k2 <;> (rw [k2] at e; simp [Value.ownBlock] at e; try omega))) | inr k => (first | (have h := (apD.row.lt _ e).2; omega) | (rw [k] at e; simp [Value.ownBlock] at e; try omega)))) (HC4.out.lt (by omega)) KK37.out.size KK37.out
                exact AllReadyH.nil
              exact AllReadyH.nil
            refine AllReadyH.cons (o := ⟨some 6, _, _, _, _, _⟩) rfl (fun K hK => ?_) ?_
            · go_simp
              refine hK.out _ _ ?_ (fun hHeld => ?_)
              · exact ⟨((KK34.out.alloc KK34.out.size _).cell (p := ⟨w.heap.size, 0, none⟩) (by dsimp only; omega)).trans c1, ((KK34.out.alloc KK34.out.size _).cell (p := ⟨g5, 1, none⟩) (by dsimp only; omega)).trans c4, (KK34.out.alloc KK34.out.size _)⟩
              clear hK K
              try simp only [Act.put, List.setIfInBounds_toArray, List.set_cons_zero, List.set_cons_succ]
              have KK43 := Lib.hid (KK34.out.alloc KK34.out.size (Obj.cells #[.slice none 0 0, .slice none 0 0] 25))
              have EE44 := Lib.hid (EE36.out.alloc (Obj.cells #[.slice none 0 0, .slice none 0 0] 25))
              have NN45 := Lib.hid (blk_alloc NN35.out (Obj.cells #[.slice none 0 0, .slice none 0 0] 25))
              have PP46 := Lib.hid (blk_new wB (Obj.cells #[.slice none 0 0, .slice none 0 0] 25) (wB.heap.size) (by first | (simp; done) | (simp; omega) | omega))
              refine wpAnyH_ready (rs := [6]) (by kernel_rfl) (by simp) ?_
              refine AllReadyH.cons (o := ⟨some 45, _, _, _, _, _⟩) rfl (fun K hK => ?_) ?_
              · refine step_append_full (by rfl) _ _ (by rfl) w4.heap.size i0 _ 1 8 und_is und_is h0z h0a h0b h0c rfl (by omega) (.slice aB (n) cB) (n) (vs.map iV) (by rfl) EE44.out (some ⟨w4.heap.size + 1, 0, none⟩) 1 1 [.int .i64 v] (by rfl) (by rfl) (fun j u hu => ⟨_, rfl, World.news_of_block (cs := #[.int .i64 v]) (t := 3) (fr := (0, 0)) NN45.out j u hu⟩) (by simp [Value.oneCell']) (by simp) (by simp [maxLen]; omega) (by omega) (KK43.out.size) ?_
                intro aD cD wD apD
                have KK47 := Lib.hid (KK43.out.grown apD.grew KK43.out.size (fun k e => (EE44.out.lt k e).1))
                have zD : wB.heap.size + 1 ≤ wD.heap.size := by have h := apD.grew.size; (try simp at h); omega
                have PP48 := Lib.hid ((apD.grew.block (wB.heap.size) (by first | (simp; done) | (simp; omega) | omega) (fun e => by first | (have h := (apB.row.lt _ e.symm).2; omega) | (rcases apB.own with k | k <;> (rw [k] at e; simp [Value.ownBlock] at e; try omega)))).trans PP46.out)
                have EE49 := Lib.hid apD.row
                refine hK.out _ _ ?_ (fun hHeld => ?_)
                · exact ⟨(KK47.out.cell (p := ⟨w.heap.size, 0, none⟩) (by dsimp only; omega)).trans c1, (KK47.out.cell (p := ⟨g5, 1, none⟩) (by dsimp only; omega)).trans c4, KK47.out⟩
                clear hK K
                try simp only [Act.put, List.setIfInBounds_toArray, List.set_cons_zero, List.set_cons_succ]
                refine wpAnyH_take (i := 9) (oi := ⟨some 48, _, _, _, _, _⟩) (v := ?_) rfl (by kernel_rfl) (by kernel_rfl) (by kernel_rfl) (fun _ _ _ h => h) (Or.inl ⟨by rfl, ?_⟩) (by assumption) ?_
                rotate_left
                · (intro w hSw; (try dsimp only at hSw); go_simp; (try with_reducible rfl))
                try simp only [Act.put, List.setIfInBounds_toArray, List.set_cons_zero, List.set_cons_succ]
                refine wpAnyH_ready (rs := [11]) (by kernel_rfl) (by simp) ?_
                refine AllReadyH.cons (o := ⟨none, _, _, _, _, _⟩) rfl (fun K hK => ?_) ?_
                · have q0 := blk_cell PP48.out (j := 0) (u := .slice none 0 0) rfl
                  have q1 := blk_cell PP48.out (j := 1) (u := .slice none 0 0) rfl
                  obtain ⟨q0, f0⟩ := q0
                  obtain ⟨q1, f1⟩ := q1
                  go_simp
                  refine hK.out _ _ ?_ (fun hHeld => ?_)
                  · exact ⟨(((KK47.out.setCell (p := ⟨wB.heap.size, 0, none⟩) (by dsimp only; omega) _).setCell (p := ⟨wB.heap.size, 1, none⟩) (by dsimp only; omega) _).cell (p := ⟨w.heap.size, 0, none⟩) (by dsimp only; omega)).trans c1, (((KK47.out.setCell (p := ⟨wB.heap.size, 0, none⟩) (by dsimp only; omega) _).setCell (p := ⟨wB.heap.size, 1, none⟩) (by dsimp only; omega) _).cell (p := ⟨g5, 1, none⟩) (by dsimp only; omega)).trans c4, ((KK47.out.setCell (p := ⟨wB.heap.size, 0, none⟩) (by dsimp only; omega) _).setCell (p := ⟨wB.heap.size, 1, none⟩) (by dsimp only; omega) _)⟩
                  clear hK K
                  try simp only [Act.put, List.setIfInBounds_toArray, List.set_cons_zero, List.set_cons_succ]
                  refine wpAnyH_done (by kernel_rfl) ?_ _
                  go_wp2_with fail
                  go_meet
                  have hrow := EE49.out
                  rw [← FL2.out] at hrow
                  obtain ⟨_, _, hvD, _, hcD⟩ := vals_of_row hrow
                  simp only [Value.slice.injEq] at hvD
                  obtain ⟨rfl, _, rfl⟩ := hvD
                  exact box_out (n + 1) (m + 1) HN1.out HM1.out PP48.out hcD ((HC4.out.step KK47.out).more KK47.out.size) (own_ne (fun e => by cases apD.own with | inl k => (rw [k] at e; first | (have h := (apB.row.lt _ e).2; omega) | (rcases apB.own with k2 | k2 <;> (rw [k2] at e; simp [Value.ownBlock] at e; try omega))) | inr k => (first | (have h := (apD.row.lt _ e).2; omega) | (rw [k] at e; simp [Value.ownBlock] at e; try omega)))) (HC4.out.lt (by omega)) (by omega) KK47.out
                exact AllReadyH.nil
              exact AllReadyH.nil
            exact AllReadyH.nil
          refine AllReadyH.cons (o := ⟨some 6, _, _, _, _, _⟩) rfl (fun K hK => ?_) ?_
          · go_simp
            refine hK.out _ _ ?_ (fun hHeld => ?_)
            · exact ⟨((KK31.out.alloc KK31.out.size _).cell (p := ⟨w.heap.size, 0, none⟩) (by dsimp only; omega)).trans c1, ((KK31.out.alloc KK31.out.size _).cell (p := ⟨g5, 1, none⟩) (by dsimp only; omega)).trans c4, (KK31.out.alloc KK31.out.size _)⟩
            clear hK K
            try simp only [Act.put, List.setIfInBounds_toArray, List.set_cons_zero, List.set_cons_succ]
            have KK50 := Lib.hid (KK31.out.alloc KK31.out.size (Obj.cells #[.slice none 0 0, .slice none 0 0] 25))
            have EE51 := Lib.hid (EE32.out.alloc (Obj.cells #[.slice none 0 0, .slice none 0 0] 25))
            have NN52 := Lib.hid (blk_alloc NN33.out (Obj.cells #[.slice none 0 0, .slice none 0 0] 25))
            have PP53 := Lib.hid (blk_new ((w4.drew.alloc (Obj.cells #[] 3)).alloc (Obj.cells #[.int .i64 v] 3)) (Obj.cells #[.slice none 0 0, .slice none 0 0] 25) (w4.heap.size + 1 + 1) (by first | (simp; done) | (simp; omega) | omega))
            refine wpAnyH_ready (rs := [3]) (by kernel_rfl) (by simp) ?_
            refine AllReadyH.cons (o := ⟨some 42, _, _, _, _, _⟩) rfl (fun K hK => ?_) ?_
            · refine step_append_full (by rfl) _ _ (by rfl) w4.heap.size i0 _ 1 8 und_is und_is h0z h0a h0b h0c rfl (by omega) (.slice (some ⟨w4.heap.size, 0, none⟩) 0 0) 0 [] (by rfl) EE51.out A n cv (vs.map iV) (by rfl) FLV (ints_news (HIN4.out.rv.step KK50.out)) (ints_one vs) (HIN4.out.nv) (by simp [maxLen]; omega) (by omega) (KK50.out.size) ?_
              intro aB cB wB apB
              simp only [Nat.zero_add, List.nil_append] at apB ⊢
              have KK54 := Lib.hid (KK50.out.grown apB.grew KK50.out.size (fun k e => (EE51.out.lt k e).1))
              have zB : w4.heap.size + 1 + 1 + 1 ≤ wB.heap.size := by have h := apB.grew.size; (try simp at h); omega
              have NN55 := Lib.hid ((apB.grew.block (w4.heap.size + 1) (by first | (simp; done) | (simp; omega) | omega) (by first | (simp [Value.ownBlock]; done) | (simp [Value.ownBlock]; omega))).trans NN52.out)
              have PP56 := Lib.hid ((apB.grew.block (w4.heap.size + 1 + 1) (by first | (simp; done) | (simp; omega) | omega) (by first | (simp [Value.ownBlock]; done) | (simp [Value.ownBlock]; omega))).trans PP53.out)
              have EE57 := Lib.hid apB.row
              refine hK.out _ _ ?_ (fun hHeld => ?_)
              · exact ⟨(KK54.out.cell (p := ⟨w.heap.size, 0, none⟩) (by dsimp only; omega)).trans c1, (KK54.out.cell (p := ⟨g5, 1, none⟩) (by dsimp only; omega)).trans c4, KK54.out⟩
              clear hK K
              try simp only [Act.put, List.setIfInBounds_toArray, List.set_cons_zero, List.set_cons_succ]
              refine wpAnyH_ready (rs := [6]) (by kernel_rfl) (by simp) ?_
              refine AllReadyH.cons (o := ⟨some 45, _, _, _, _, _⟩) rfl (fun K hK => ?_) ?_
              · refine step_append_full (by rfl) _ _ (by rfl) w4.heap.size i0 _ 1 8 und_is und_is h0z h0a h0b h0c rfl (by omega) (.slice aB (n) cB) (n) (vs.map iV) (by rfl) EE57.out (some ⟨w4.heap.size + 1, 0, none⟩) 1 1 [.int .i64 v] (by rfl) (by rfl) (fun j u hu => ⟨_, rfl, World.news_of_block (cs := #[.int .i64 v]) (t := 3) (fr := (0, 0)) NN55.out j u hu⟩) (by simp [Value.oneCell']) (by simp) (by simp [maxLen]; omega) (by omega) (KK54.out.size) ?_
                intro aD cD wD apD
                have KK58 := Lib.hid (KK54.out.grown apD.grew KK54.out.size (fun k e => (EE57.out.lt k e).1))
                have zD : wB.heap.size ≤ wD.heap.size := by have h := apD.grew.size; (try simp at h); omega
                have PP59 := Lib.hid ((apD.grew.block (w4.heap.size + 1 + 1) (by first | (simp; done) | (simp; omega) | omega) (fun e => by first | (have h := (apB.row.lt _ e.symm).2; omega) | (rcases apB.own with k | k <;> (rw [k] at e; simp [Value.ownBlock] at e; try omega)))).trans PP56.out)
                have EE60 := Lib.hid apD.row
                refine hK.out _ _ ?_ (fun hHeld => ?_)
                · exact ⟨(KK58.out.cell (p := ⟨w.heap.size, 0, none⟩) (by dsimp only; omega)).trans c1, (KK58.out.cell (p := ⟨g5, 1, none⟩) (by dsimp only; omega)).trans c4, KK58.out⟩
                clear hK K
                try simp only [Act.put, List.setIfInBounds_toArray, List.set_cons_zero, List.set_cons_succ]
                refine wpAnyH_take (i := 9) (oi := ⟨some 48, _, _, _, _, _⟩) (v := ?_) rfl (by kernel_rfl) (by kernel_rfl) (by kernel_rfl) (fun _ _ _ h => h) (Or.inl ⟨by rfl, ?_⟩) (by assumption) ?_
                rotate_left
                · (intro w hSw; (try dsimp only at hSw); go_simp; (try with_reducible rfl))
                try simp only [Act.put, List.setIfInBounds_toArray, List.set_cons_zero, List.set_cons_succ]
                refine wpAnyH_ready (rs := [11]) (by kernel_rfl) (by simp) ?_
                refine AllReadyH.cons (o := ⟨none, _, _, _, _, _⟩) rfl (fun K hK => ?_) ?_
                · have q0 := blk_cell PP59.out (j := 0) (u := .slice none 0 0) rfl
                  have q1 := blk_cell PP59.out (j := 1) (u := .slice none 0 0) rfl
                  obtain ⟨q0, f0⟩ := q0
                  obtain ⟨q1, f1⟩ := q1
                  go_simp
                  refine hK.out _ _ ?_ (fun hHeld => ?_)
                  · exact ⟨(((KK58.out.setCell (p := ⟨w4.heap.size + 1 + 1, 0, none⟩) (by dsimp only; omega) _).setCell (p := ⟨w4.heap.size + 1 + 1, 1, none⟩) (by dsimp only; omega) _).cell (p := ⟨w.heap.size, 0, none⟩) (by dsimp only; omega)).trans c1, (((KK58.out.setCell (p := ⟨w4.heap.size + 1 + 1, 0, none⟩) (by dsimp only; omega) _).setCell (p := ⟨w4.heap.size + 1 + 1, 1, none⟩) (by dsimp only; omega) _).cell (p := ⟨g5, 1, none⟩) (by dsimp only; omega)).trans c4, ((KK58.out.setCell (p := ⟨w4.heap.size + 1 + 1, 0, none⟩) (by dsimp only; omega) _).setCell (p := ⟨w4.heap.size + 1 + 1, 1, none⟩) (by dsimp only; omega) _)⟩
                  clear hK K
                  try simp only [Act.put, List.setIfInBounds_toArray, List.set_cons_zero, List.set_cons_succ]
                  refine wpAnyH_done (by kernel_rfl) ?_ _
                  go_wp2_with fail
                  go_meet
                  have hrow := EE60.out
                  rw [← FL2.out] at hrow
                  obtain ⟨_, _, hvD, _, hcD⟩ := vals_of_row hrow
                  simp only [Value.slice.injEq] at hvD
                  obtain ⟨rfl, _, rfl⟩ := hvD
                  exact box_out (n + 1) (m + 1) HN1.out HM1.out PP59.out hcD ((HC4.out.step KK58.out).more KK58.out.size) (own_ne (fun e => by cases apD.own with | inl k => (rw [k] at e; first | (have h := (apB.row.lt _ e).2; omega) | (rcases apB.own with k2 | k2 <;> (rw [k2] at e; simp [Value.ownBlock] at e; try omega))) | inr k => (first | (have h := (apD.row.lt _ e).2; omega) | (rw [k] at e; simp [Value.ownBlock] at e; try omega)))) (HC4.out.lt (by omega)) (by omega) KK58.out
                exact AllReadyH.nil
              exact AllReadyH.nil
            exact AllReadyH.nil
          exact AllReadyH.nil
        refine AllReadyH.cons (o := ⟨some 6, _, _, _, _, _⟩) rfl (fun K hK => ?_) ?_
        · go_simp
          refine hK.out _ _ ?_ (fun hHeld => ?_)
          · exact ⟨((KK1.out.alloc KK1.out.size _).cell (p := ⟨w.heap.size, 0, none⟩) (by dsimp only; omega)).trans c1, ((KK1.out.alloc KK1.out.size _).cell (p := ⟨g5, 1, none⟩) (by dsimp only; omega)).trans c4, (KK1.out.alloc KK1.out.size _)⟩
          clear hK K
          try simp only [Act.put, List.setIfInBounds_toArray, List.set_cons_zero, List.set_cons_succ]
          have KK61 := Lib.hid (KK1.out.alloc KK1.out.size (Obj.cells #[.slice none 0 0, .slice none 0 0] 25))
          have EE62 := Lib.hid (EE2.out.alloc (Obj.cells #[.slice none 0 0, .slice none 0 0] 25))
          have PP63 := Lib.hid (blk_new (w4.drew.alloc (Obj.cells #[] 3)) (Obj.cells #[.slice none 0 0, .slice none 0 0] 25) (w4.heap.size + 1) (by first | (simp; done) | (simp; omega) | omega))
          refine wpAnyH_ready (rs := [3, 5]) (by kernel_rfl) (by simp) ?_
          refine AllReadyH.cons (o := ⟨some 42, _, _, _, _, _⟩) rfl (fun K hK => ?_) ?_
          · refine step_append_full (by rfl) _ _ (by rfl) w4.heap.size i0 _ 1 8 und_is und_is h0z h0a h0b h0c rfl (by omega) (.slice (some ⟨w4.heap.size, 0, none⟩) 0 0) 0 [] (by rfl) EE62.out A n cv (vs.map iV) (by rfl) FLV (ints_news (HIN4.out.rv.step KK61.out)) (ints_one vs) (HIN4.out.nv) (by simp [maxLen]; omega) (by omega) (KK61.out.size) ?_
            intro aB cB wB apB
            simp only [Nat.zero_add, List.nil_append] at apB ⊢
            have KK64 := Lib.hid (KK61.out.grown apB.grew KK61.out.size (fun k e => (EE62.out.lt k e).1))
            have zB : w4.heap.size + 1 + 1 ≤ wB.heap.size := by have h := apB.grew.size; (try simp at h); omega
            have PP65 := Lib.hid ((apB.grew.block (w4.heap.size + 1) (by first | (simp; done) | (simp; omega) | omega) (by first | (simp [Value.ownBlock]; done) | (simp [Value.ownBlock]; omega))).trans PP63.out)
            have EE66 := Lib.hid apB.row
            refine hK.out _ _ ?_ (fun hHeld => ?_)
            · exact ⟨(KK64.out.cell (p := ⟨w.heap.size, 0, none⟩) (by dsimp only; omega)).trans c1, (KK64.out.cell (p := ⟨g5, 1, none⟩) (by dsimp only; omega)).trans c4, KK64.out⟩
            clear hK K
            try simp only [Act.put, List.setIfInBounds_toArray, List.set_cons_zero, List.set_cons_succ]
            refine wpAnyH_ready (rs := [5]) (by kernel_rfl) (by simp) ?_
            refine AllReadyH.cons (o := ⟨some 44, _, _, _, _, _⟩) rfl (fun K hK => ?_) ?_
            · go_simp
              refine hK.out _ _ ?_ (fun hHeld => ?_)
              · exact ⟨((KK64.out.alloc KK64.out.size _).cell (p := ⟨w.heap.size, 0, none⟩) (by dsimp only; omega)).trans c1, ((KK64.out.alloc KK64.out.size _).cell (p := ⟨g5, 1, none⟩) (by dsimp only; omega)).trans c4, (KK64.out.alloc KK64.out.size _)⟩
              clear hK K
              try simp only [Act.put, List.setIfInBounds_toArray, List.set_cons_zero, List.set_cons_succ]
              have KK67 := Lib.hid (KK64.out.alloc KK64.out.size (Obj.cells #[.int .i64 v] 3))
              have EE68 := Lib.hid (EE66.out.alloc (Obj.cells #[.int .i64 v] 3))
              have PP69 := Lib.hid (blk_alloc PP65.out (Obj.cells #[.int .i64 v] 3))
              have NN70 := Lib.hid (blk_new wB (Obj.cells #[.int .i64 v] 3) (wB.heap.size) (by first | (simp; done) | (simp; omega) | omega))
              refine wpAnyH_ready (rs := [6]) (by kernel_rfl) (by simp) ?_
              refine AllReadyH.cons (o := ⟨some 45, _, _, _, _, _⟩) rfl (fun K hK => ?_) ?_
              · refine step_append_full (by rfl) _ _ (by rfl) w4.heap.size i0 _ 1 8 und_is und_is h0z h0a h0b h0c rfl (by omega) (.slice aB (n) cB) (n) (vs.map iV) (by rfl) EE68.out (some ⟨wB.heap.size, 0, none⟩) 1 1 [.int .i64 v] (by rfl) (by rfl) (fun j u hu => ⟨_, rfl, World.news_of_block (cs := #[.int .i64 v]) (t := 3) (fr := (0, 0)) NN70.out j u hu⟩) (by simp [Value.oneCell']) (by simp) (by simp [maxLen]; omega) (by omega) (KK67.out.size) ?_
                intro aD cD wD apD
                have KK71 := Lib.hid (KK67.out.grown apD.grew KK67.out.size (fun k e => (EE68.out.lt k e).1))
                have zD : wB.heap.size + 1 ≤ wD.heap.size := by have h := apD.grew.size; (try simp at h); omega
                have PP72 := Lib.hid ((apD.grew.block (w4.heap.size + 1) (by first | (simp; done) | (simp; omega) | omega) (fun e => by first | (have h := (apB.row.lt _ e.symm).2; omega) | (rcases apB.own with k | k <;> (rw [k] at e; simp [Value.ownBlock] at e; try omega)))).trans PP69.out)
                have EE73 := Lib.hid apD.row
                refine hK.out _ _ ?_ (fun hHeld => ?_)
                · exact ⟨(KK71.out.cell (p := ⟨w.heap.size, 0, none⟩) (by dsimp only; omega)).trans c1, (KK71.out.cell (p := ⟨g5, 1, none⟩) (by dsimp only; omega)).trans c4, KK71.out⟩
                clear hK K
                try simp only [Act.put, List.setIfInBounds_toArray, List.set_cons_zero, List.set_cons_succ]
                refine wpAnyH_take (i := 9) (oi := ⟨some 48, _, _, _, _, _⟩) (v := ?_) rfl (by kernel_rfl) (by kernel_rfl) (by kernel_rfl) (fun _ _ _ h => h) (Or.inl ⟨by rfl, ?_⟩) (by assumption) ?_
                rotate_left
                · (intro w hSw; (try dsimp only at hSw); go_simp; (try with_reducible rfl))
                try simp only [Act.put, List.setIfInBounds_toArray, List.set_cons_zero, List.set_cons_succ]
                refine wpAnyH_ready (rs := [11]) (by kernel_rfl) (by simp) ?_
                refine AllReadyH.cons (o := ⟨none, _, _, _, _, _⟩) rfl (fun K hK => ?_) ?_
                · have q0 := blk_cell PP72.out (j := 0) (u := .slice none 0 0) rfl
                  have q1 := blk_cell PP72.out (j := 1) (u := .slice none 0 0) rfl
                  obtain ⟨q0, f0⟩ := q0
                  obtain ⟨q1, f1⟩ := q1
                  go_simp
                  refine hK.out _ _ ?_ (fun hHeld => ?_)
                  · exact ⟨(((KK71.out.setCell (p := ⟨w4.heap.size + 1, 0, none⟩) (by dsimp only; omega) _).setCell (p := ⟨w4.heap.size + 1, 1, none⟩) (by dsimp only; omega) _).cell (p := ⟨w.heap.size, 0, none⟩) (by dsimp only; omega)).trans c1, (((KK71.out.setCell (p := ⟨w4.heap.size + 1, 0, none⟩) (by dsimp only; omega) _).setCell (p := ⟨w4.heap.size + 1, 1, none⟩) (by dsimp only; omega) _).cell (p := ⟨g5, 1, none⟩) (by dsimp only; omega)).trans c4, ((KK71.out.setCell (p := ⟨w4.heap.size + 1, 0, none⟩) (by dsimp only; omega) _).setCell (p := ⟨w4.heap.size + 1, 1, none⟩) (by dsimp only; omega) _)⟩
                  clear hK K
                  try simp only [Act.put, List.setIfInBounds_toArray, List.set_cons_zero, List.set_cons_succ]
                  refine wpAnyH_done (by kernel_rfl) ?_ _
                  go_wp2_with fail
                  go_meet
                  have hrow := EE73.out
                  rw [← FL2.out] at hrow
                  obtain ⟨_, _, hvD, _, hcD⟩ := vals_of_row hrow
                  simp only [Value.slice.injEq] at hvD
                  obtain ⟨rfl, _, rfl⟩ := hvD
                  exact box_out (n + 1) (m + 1) HN1.out HM1.out PP72.out hcD ((HC4.out.step KK71.out).more KK71.out.size) (own_ne (fun e => by cases apD.own with | inl k => (rw [k] at e; first | (have h := (apB.row.lt _ e).2; omega) | (rcases apB.own with k2 | k2 <;> (rw [k2] at e; simp [Value.ownBlock] at e; try omega))) | inr k => (first | (have h := (apD.row.lt _ e).2; omega) | (rw [k] at e; simp [Value.ownBlock] at e; try omega)))) (HC4.out.lt (by omega)) (by omega) KK71.out
                exact AllReadyH.nil
              exact AllReadyH.nil
            exact AllReadyH.nil
          refine AllReadyH.cons (o := ⟨some 44, _, _, _, _, _⟩) rfl (fun K hK => ?_) ?_
          · go_simp
            refine hK.out _ _ ?_ (fun hHeld => ?_)
            · exact ⟨((KK61.out.alloc KK61.out.size _).cell (p := ⟨w.heap.size, 0, none⟩) (by dsimp only; omega)).trans c1, ((KK61.out.alloc KK61.out.size _).cell (p := ⟨g5, 1, none⟩) (by dsimp only; omega)).trans c4, (KK61.out.alloc KK61.out.size _)⟩
            clear hK K
            try simp only [Act.put, List.setIfInBounds_toArray, List.set_cons_zero, List.set_cons_succ]
            have KK74 := Lib.hid (KK61.out.alloc KK61.out.size (Obj.cells #[.int .i64 v] 3))
            have EE75 := Lib.hid (EE62.out.alloc (Obj.cells #[.int .i64 v] 3))
            have PP76 := Lib.hid (blk_alloc PP63.out (Obj.cells #[.int .i64 v] 3))
            have NN77 := Lib.hid (blk_new ((w4.drew.alloc (Obj.cells #[] 3)).alloc (Obj.cells #[.slice none 0 0, .slice none 0 0] 25)) (Obj.cells #[.int .i64 v] 3) (w4.heap.size + 1 + 1) (by first | (simp; done) | (simp; omega) | omega))
            refine wpAnyH_ready (rs := [3]) (by kernel_rfl) (by simp) ?_
            refine AllReadyH.cons (o := ⟨some 42, _, _, _, _, _⟩) rfl (fun K hK => ?_) ?_
            · refine step_append_full (by rfl) _ _ (by rfl) w4.heap.size i0 _ 1 8 und_is und_is h0z h0a h0b h0c rfl (by omega) (.slice (some ⟨w4.heap.size, 0, none⟩) 0 0) 0 [] (by rfl) EE75.out A n cv (vs.map iV) (by rfl) FLV (ints_news (HIN4.out.rv.step KK74.out)) (ints_one vs) (HIN4.out.nv) (by simp [maxLen]; omega) (by omega) (KK74.out.size) ?_
              intro aB cB wB apB
              simp only [Nat.zero_add, List.nil_append] at apB ⊢
              have KK78 := Lib.hid (KK74.out.grown apB.grew KK74.out.size (fun k e => (EE75.out.lt k e).1))
              have zB : w4.heap.size + 1 + 1 + 1 ≤ wB.heap.size := by have h := apB.grew.size; (try simp at h); omega
              have NN79 := Lib.hid ((apB.grew.block (w4.heap.size + 1 + 1) (by first | (simp; done) | (simp; omega) | omega) (by first | (simp [Value.ownBlock]; done) | (simp [Value.ownBlock]; omega))).trans NN77.out)
              have PP80 := Lib.hid ((apB.grew.block (w4.heap.size + 1) (by first | (simp; done) | (simp; omega) | omega) (by first | (simp [Value.ownBlock]; done) | (simp [Value.ownBlock]; omega))).trans PP76.out)
              have EE81 := Lib.hid apB.row
              refine hK.out _ _ ?_ (fun hHeld => ?_)
              · exact ⟨(KK78.out.cell (p := ⟨w.heap.size, 0, none⟩) (by dsimp only; omega)).trans c1, (KK78.out.cell (p := ⟨g5, 1, none⟩) (by dsimp only; omega)).trans c4, KK78.out⟩
              clear hK K
              try simp only [Act.put, List.setIfInBounds_toArray, List.set_cons_zero, List.set_cons_succ]
              refine wpAnyH_ready (rs := [6]) (by kernel_rfl) (by simp) ?_
              refine AllReadyH.cons (o := ⟨some 45, _, _, _, _, _⟩) rfl (fun K hK => ?_) ?_
              · refine step_append_full (by rfl) _ _ (by rfl) w4.heap.size i0 _ 1 8 und_is und_is h0z h0a h0b h0c rfl (by omega) (.slice aB (n) cB) (n) (vs.map iV) (by rfl) EE81.out (some ⟨w4.heap.size + 1 + 1, 0, none⟩) 1 1 [.int .i64 v] (by rfl) (by rfl) (fun j u hu => ⟨_, rfl, World.news_of_block (cs := #[.int .i64 v]) (t := 3) (fr := (0, 0)) NN79.out j u hu⟩) (by simp [Value.oneCell']) (by simp) (by simp [maxLen]; omega) (by omega) (KK78.out.size) ?_
                intro aD cD wD apD
                have KK82 := Lib.hid (KK78.out.grown apD.grew KK78.out.size (fun k e => (EE81.out.lt k e).1))
                have zD : wB.heap.size ≤ wD.heap.size := by have h := apD.grew.size; (try simp at h); omega
                have PP83 := Lib.hid ((apD.grew.block (w4.heap.size + 1) (by first | (simp; done) | (simp; omega) | omega) (fun e => by first | (have h := (apB.row.lt _ e.symm).2; omega) | (rcases apB.own with k | k <;> (rw [k] at e; simp [Value.ownBlock] at e; try omega)))).trans PP80.out)
                have EE84 := Lib.hid apD.row
                refine hK.out _ _ ?_ (fun hHeld => ?_)
                · exact ⟨(KK82.out.cell (p := ⟨w.heap.size, 0, none⟩) (by dsimp only; omega)).trans c1, (KK82.out.cell (p := ⟨g5, 1, none⟩) (by dsimp only; omega)).trans c4, KK82.out⟩
                clear hK K
                try simp only [Act.put, List.setIfInBounds_toArray, List.set_cons_zero, List.set_cons_succ]
                refine wpAnyH_take (i := 9) (oi := ⟨some 48, _, _, _, _, _⟩) (v := ?_) rfl (by kernel_rfl) (by kernel_rfl) (by kernel_rfl) (fun _ _ _ h => h) (Or.inl ⟨by rfl, ?_⟩) (by assumption) ?_
                rotate_left
                · (intro w hSw; (try dsimp only at hSw); go_simp; (try with_reducible rfl))
                try simp only [Act.put, List.setIfInBounds_toArray, List.set_cons_zero, List.set_cons_succ]
                refine wpAnyH_ready (rs := [11]) (by kernel_rfl) (by simp) ?_
                refine AllReadyH.cons (o := ⟨none, _, _, _, _, _⟩) rfl (fun K hK => ?_) ?_
                · have q0 := blk_cell PP83.out (j := 0) (u := .slice none 0 0) rfl
                  have q1 := blk_cell PP83.out (j := 1) (u := .slice none 0 0) rfl
                  obtain ⟨q0, f0⟩ := q0
                  obtain ⟨q1, f1⟩ := q1
                  go_simp
                  refine hK.out _ _ ?_ (fun hHeld => ?_)
                  · exact ⟨(((KK82.out.setCell (p := ⟨w4.heap.size + 1, 0, none⟩) (by dsimp only; omega) _).setCell (p := ⟨w4.heap.size + 1, 1, none⟩) (by dsimp only; omega) _).cell (p := ⟨w.heap.size, 0, none⟩) (by dsimp only; omega)).trans c1, (((KK82.out.setCell (p := ⟨w4.heap.size + 1, 0, none⟩) (by dsimp only; omega) _).setCell (p := ⟨w4.heap.size + 1, 1, none⟩) (by dsimp only; omega) _).cell (p := ⟨g5, 1, none⟩) (by dsimp only; omega)).trans c4, ((KK82.out.setCell (p := ⟨w4.heap.size + 1, 0, none⟩) (by dsimp only; omega) _).setCell (p := ⟨w4.heap.size + 1, 1, none⟩) (by dsimp only; omega) _)⟩
                  clear hK K
                  try simp only [Act.put, List.setIfInBounds_toArray, List.set_cons_zero, List.set_cons_succ]
                  refine wpAnyH_done (by kernel_rfl) ?_ _
                  go_wp2_with fail
                  go_meet
                  have hrow := EE84.out
                  rw [← FL2.out] at hrow
                  obtain ⟨_, _, hvD, _, hcD⟩ := vals_of_row hrow
                  simp only [Value.slice.injEq] at hvD
                  obtain ⟨rfl, _, rfl⟩ := hvD
                  exact box_out (n + 1) (m + 1) HN1.out HM1.out PP83.out hcD ((HC4.out.step KK82.out).more KK82.out.size) (own_ne (fun e => by cases apD.own with | inl k => (rw [k] at e; first | (have h := (apB.row.lt _ e).2; omega) | (rcases apB.own with k2 | k2 <;> (rw [k2] at e; simp [Value.ownBlock] at e; try omega))) | inr k => (first | (have h := (apD.row.lt _ e).2; omega) | (rw [k] at e; simp [Value.ownBlock] at e; try omega)))) (HC4.out.lt (by omega)) (by omega) KK82.out
                exact AllReadyH.nil
              exact AllReadyH.nil
            exact AllReadyH.nil
          exact AllReadyH.nil
        exact AllReadyH.nil
      refine AllReadyH.cons (o := ⟨some 44, _, _, _, _, _⟩) rfl (fun K hK => ?_) ?_
      · go_simp
        refine hK.out _ _ ?_ (fun hHeld => ?_)
        · exact ⟨((KK0.out.alloc KK0.out.size _).cell (p := ⟨w.heap.size, 0, none⟩) (by dsimp only; omega)).trans c1, ((KK0.out.alloc KK0.out.size _).cell (p := ⟨g5, 1, none⟩) (by dsimp only; omega)).trans c4, (KK0.out.alloc KK0.out.size _)⟩
        clear hK K
        try simp only [Act.put, List.setIfInBounds_toArray, List.set_cons_zero, List.set_cons_succ]
        have KK85 := Lib.hid (KK0.out.alloc KK0.out.size (Obj.cells #[.int .i64 v] 3))
        have NN86 := Lib.hid (blk_new w4.drew (Obj.cells #[.int .i64 v] 3) (w4.heap.size) (by first | (simp; done) | (simp; omega) | omega))
        refine wpAnyH_ready (rs := [0, 10]) (by kernel_rfl) (by simp) ?_
        refine AllReadyH.cons (o := ⟨some 39, _, _, _, _, _⟩) rfl (fun K hK => ?_) ?_
        · go_simp
          refine hK.out _ _ ?_ (fun hHeld => ?_)
          · exact ⟨((KK85.out.alloc KK85.out.size _).cell (p := ⟨w.heap.size, 0, none⟩) (by dsimp only; omega)).trans c1, ((KK85.out.alloc KK85.out.size _).cell (p := ⟨g5, 1, none⟩) (by dsimp only; omega)).trans c4, (KK85.out.alloc KK85.out.size _)⟩
          clear hK K
          try simp only [Act.put, List.setIfInBounds_toArray, List.set_cons_zero, List.set_cons_succ]
          have KK87 := Lib.hid (KK85.out.alloc KK85.out.size (Obj.cells #[] 3))
          have NN88 := Lib.hid (blk_alloc NN86.out (Obj.cells #[] 3))
          have EE89 := Lib.hid (own_made' (w4.drew.alloc (Obj.cells #[.int .i64 v] 3)) 3 (w4.heap.size) 1 (w4.heap.size + 1) (by first | (simp; done) | (simp; omega) | omega) KK85.out.size)
          refine wpAnyH_ready (rs := [3, 10]) (by kernel_rfl) (by simp) ?_
          refine AllReadyH.cons (o := ⟨some 42, _, _, _, _, _⟩) rfl (fun K hK => ?_) ?_
          · refine step_append_full (by rfl) _ _ (by rfl) w4.heap.size i0 _ 1 8 und_is und_is h0z h0a h0b h0c rfl (by omega) (.slice (some ⟨w4.heap.size + 1, 0, none⟩) 0 0) 0 [] (by rfl) EE89.out A n cv (vs.map iV) (by rfl) FLV (ints_news (HIN4.out.rv.step KK87.out)) (ints_one vs) (HIN4.out.nv) (by simp [maxLen]; omega) (by omega) (KK87.out.size) ?_
            intro aB cB wB apB
            simp only [Nat.zero_add, List.nil_append] at apB ⊢
            have KK90 := Lib.hid (KK87.out.grown apB.grew KK87.out.size (fun k e => (EE89.out.lt k e).1))
            have zB : w4.heap.size + 1 + 1 ≤ wB.heap.size := by have h := apB.grew.size; (try simp at h); omega
            have NN91 := Lib.hid ((apB.grew.block (w4.heap.size) (by first | (simp; done) | (simp; omega) | omega) (by first | (simp [Value.ownBlock]; done) | (simp [Value.ownBlock]; omega))).trans NN88.out)
            have EE92 := Lib.hid apB.row
            refine hK.out _ _ ?_ (fun hHeld => ?_)
            · exact ⟨(KK90.out.cell (p := ⟨w.heap.size, 0, none⟩) (by dsimp only; omega)).trans c1, (KK90.out.cell (p := ⟨g5, 1, none⟩) (by dsimp only; omega)).trans c4, KK90.out⟩
            clear hK K
            try simp only [Act.put, List.setIfInBounds_toArray, List.set_cons_zero, List.set_cons_succ]
            refine wpAnyH_ready (rs := [6, 10]) (by kernel_rfl) (by simp) ?_
            refine AllReadyH.cons (o := ⟨some 45, _, _, _, _, _⟩) rfl (fun K hK => ?_) ?_
            · refine step_append_full (by rfl) _ _ (by rfl) w4.heap.size i0 _ 1 8 und_is und_is h0z h0a h0b h0c rfl (by omega) (.slice aB (n) cB) (n) (vs.map iV) (by rfl) EE92.out (some ⟨w4.heap.size, 0, none⟩) 1 1 [.int .i64 v] (by rfl) (by rfl) (fun j u hu => ⟨_, rfl, World.news_of_block (cs := #[.int .i64 v]) (t := 3) (fr := (0, 0)) NN91.out j u hu⟩) (by simp [Value.oneCell']) (by simp) (by simp [maxLen]; omega) (by omega) (KK90.out.size) ?_
              intro aD cD wD apD
              have KK93 := Lib.hid (KK90.out.grown apD.grew KK90.out.size (fun k e => (EE92.out.lt k e).1))
              have zD : wB.heap.size ≤ wD.heap.size := by have h := apD.grew.size; (try simp at h); omega
              have EE94 := Lib.hid apD.row
              refine hK.out _ _ ?_ (fun hHeld => ?_)
              · exact ⟨(KK93.out.cell (p := ⟨w.heap.size, 0, none⟩) (by dsimp only; omega)).trans c1, (KK93.out.cell (p := ⟨g5, 1, none⟩) (by dsimp only; omega)).trans c4, KK93.out⟩
              clear hK K
              try simp only [Act.put, List.setIfInBounds_toArray, List.set_cons_zero, List.set_cons_succ]
              refine wpAnyH_take (i := 9) (oi := ⟨some 48, _, _, _, _, _⟩) (v := ?_) rfl (by kernel_rfl) (by kernel_rfl) (by kernel_rfl) (fun _ _ _ h => h) (Or.inl ⟨by rfl, ?_⟩) (by assumption) ?_
              rotate_left
              · (intro w hSw; (try dsimp only at hSw); go_simp; (try with_reducible rfl))
              try simp only [Act.put, List.setIfInBounds_toArray, List.set_cons_zero, List.set_cons_succ]
              refine wpAnyH_ready (rs := [10]) (by kernel_rfl) (by simp) ?_
              refine AllReadyH.cons (o := ⟨some 6, _, _, _, _, _⟩) rfl (fun K hK => ?_) ?_
              · go_simp
                refine hK.out _ _ ?_ (fun hHeld => ?_)
                · exact ⟨((KK93.out.alloc KK93.out.size _).cell (p := ⟨w.heap.size, 0, none⟩) (by dsimp only; omega)).trans c1, ((KK93.out.alloc KK93.out.size _).cell (p := ⟨g5, 1, none⟩) (by dsimp only; omega)).trans c4, (KK93.out.alloc KK93.out.size _)⟩
                clear hK K
                try simp only [Act.put, List.setIfInBounds_toArray, List.set_cons_zero, List.set_cons_succ]
                have KK95 := Lib.hid (KK93.out.alloc KK93.out.size (Obj.cells #[.slice none 0 0, .slice none 0 0] 25))
                have EE96 := Lib.hid (EE94.out.alloc (Obj.cells #[.slice none 0 0, .slice none 0 0] 25))
                have NN97 := Lib.hid (blk_alloc NN91.out (Obj.cells #[.slice none 0 0, .slice none 0 0] 25))
                have PP98 := Lib.hid (blk_new wD (Obj.cells #[.slice none 0 0, .slice none 0 0] 25) (wD.heap.size) (by first | (simp; done) | (simp; omega) | omega))
                refine wpAnyH_ready (rs := [11]) (by kernel_rfl) (by simp) ?_
                refine AllReadyH.cons (o := ⟨none, _, _, _, _, _⟩) rfl (fun K hK => ?_) ?_
                · have q0 := blk_cell PP98.out (j := 0) (u := .slice none 0 0) rfl
                  have q1 := blk_cell PP98.out (j := 1) (u := .slice none 0 0) rfl
                  obtain ⟨q0, f0⟩ := q0
                  obtain ⟨q1, f1⟩ := q1
                  go_simp
                  refine hK.out _ _ ?_ (fun hHeld => ?_)
                  · exact ⟨((KK93.out.alloc KK93.out.size _).cell (p := ⟨w.heap.size, 0, none⟩) (by dsimp only; omega)).trans c1, ((KK93.out.alloc KK93.out.size _).cell (p := ⟨g5, 1, none⟩) (by dsimp only; omega)).trans c4, (KK93.out.alloc KK93.out.size _)⟩
                  clear hK K
                  try simp only [Act.put, List.setIfInBounds_toArray, List.set_cons_zero, List.set_cons_succ]
                  refine wpAnyH_done (by kernel_rfl) ?_ _
                  go_wp2_with fail
                  go_meet
                  have hrow := EE94.out
                  rw [← FL2.out] at hrow
                  obtain ⟨_, _, hvD, _, hcD⟩ := vals_of_row hrow
                  simp only [Value.slice.injEq] at hvD
                  obtain ⟨rfl, _, rfl⟩ := hvD
                  exact box_new (n + 1) (m + 1) HN1.out HM1.out hcD ((HC4.out.step KK93.out).more KK93.out.size) ((by first | (simp; done) | (simp; omega) | omega)) (own_ne (fun e => by cases apD.own with | inl k => (rw [k] at e; first | (have h := (apB.row.lt _ e).2; omega) | (rcases apB.own with k2 | k2 <;> (rw [k2] at e; simp [Value.ownBlock] at e; try omega))) | inr k => (first | (have h := (apD.row.lt _ e).2; omega) | (rw [k] at e; simp [Value.ownBlock] at e; try omega)))) (HC4.out.lt (by omega)) KK93.out.size KK93.out
                exact AllReadyH.nil
              exact AllReadyH.nil
            refine AllReadyH.cons (o := ⟨some 6, _, _, _, _, _⟩) rfl (fun K hK => ?_) ?_
            · go_simp
              refine hK.out _ _ ?_ (fun hHeld => ?_)
              · exact ⟨((KK90.out.alloc KK90.out.size _).cell (p := ⟨w.heap.size, 0, none⟩) (by dsimp only; omega)).trans c1, ((KK90.out.alloc KK90.out.size _).cell (p := ⟨g5, 1, none⟩) (by dsimp only; omega)).trans c4, (KK90.out.alloc KK90.out.size _)⟩
              clear hK K
              try simp only [Act.put, List.setIfInBounds_toArray, List.set_cons_zero, List.set_cons_succ]
              have KK99 := Lib.hid (KK90.out.alloc KK90.out.size (Obj.cells #[.slice none 0 0, .slice none 0 0] 25))
              have EE100 := Lib.hid (EE92.out.alloc (Obj.cells #[.slice none 0 0, .slice none 0 0] 25))
              have NN101 := Lib.hid (blk_alloc NN91.out (Obj.cells #[.slice none 0 0, .slice none 0 0] 25))
              have PP102 := Lib.hid (blk_new wB (Obj.cells #[.slice none 0 0, .slice none 0 0] 25) (wB.heap.size) (by first | (simp; done) | (simp; omega) | omega))
              refine wpAnyH_ready (rs := [6]) (by kernel_rfl) (by simp) ?_
              refine AllReadyH.cons (o := ⟨some 45, _, _, _, _, _⟩) rfl (fun K hK => ?_) ?_
              · refine step_append_full (by rfl) _ _ (by rfl) w4.heap.size i0 _ 1 8 und_is und_is h0z h0a h0b h0c rfl (by omega) (.slice aB (n) cB) (n) (vs.map iV) (by rfl) EE100.out (some ⟨w4.heap.size, 0, none⟩) 1 1 [.int .i64 v] (by rfl) (by rfl) (fun j u hu => ⟨_, rfl, World.news_of_block (cs := #[.int .i64 v]) (t := 3) (fr := (0, 0)) NN101.out j u hu⟩) (by simp [Value.oneCell']) (by simp) (by simp [maxLen]; omega) (by omega) (KK99.out.size) ?_
                intro aD cD wD apD
                have KK103 := Lib.hid (KK99.out.grown apD.grew KK99.out.size (fun k e => (EE100.out.lt k e).1))
                have zD : wB.heap.size + 1 ≤ wD.heap.size := by have h := apD.grew.size; (try simp at h); omega
                have PP104 := Lib.hid ((apD.grew.block (wB.heap.size) (by first | (simp; done) | (simp; omega) | omega) (fun e => by first | (have h := (apB.row.lt _ e.symm).2; omega) | (rcases apB.own with k | k <;> (rw [k] at e; simp [Value.ownBlock] at e; try omega)))).trans PP102.out)
                have EE105 := Lib.hid apD.row
                refine hK.out _ _ ?_ (fun hHeld => ?_)
                · exact ⟨(KK103.out.cell (p := ⟨w.heap.size, 0, none⟩) (by dsimp only; omega)).trans c1, (KK103.out.cell (p := ⟨g5, 1, none⟩) (by dsimp only; omega)).trans c4, KK103.out⟩
                clear hK K
                try simp only [Act.put, List.setIfInBounds_toArray, List.set_cons_zero, List.set_cons_succ]
                refine wpAnyH_take (i := 9) (oi := ⟨some 48, _, _, _, _, _⟩) (v := ?_) rfl (by kernel_rfl) (by kernel_rfl) (by kernel_rfl) (fun _ _ _ h => h) (Or.inl ⟨by rfl, ?_⟩) (by assumption) ?_
                rotate_left
                · (intro w hSw; (try dsimp only at hSw); go_simp; (try with_reducible rfl))
                try simp only [Act.put, List.setIfInBounds_toArray, List.set_cons_zero, List.set_cons_succ]
                refine wpAnyH_ready (rs := [11]) (by kernel_rfl) (by simp) ?_
                refine AllReadyH.cons (o := ⟨none, _, _, _, _, _⟩) rfl (fun K hK => ?_) ?_
                · have q0 := blk_cell PP104.out (j := 0) (u := .slice none 0 0) rfl
                  have q1 := blk_cell PP104.out (j := 1) (u := .slice none 0 0) rfl
                  obtain ⟨q0, f0⟩ := q0
                  obtain ⟨q1, f1⟩ := q1
                  go_simp
                  refine hK.out _ _ ?_ (fun hHeld => ?_)
                  · exact ⟨(((KK103.out.setCell (p := ⟨wB.heap.size, 0, none⟩) (by dsimp only; omega) _).setCell (p := ⟨wB.heap.size, 1, none⟩) (by dsimp only; omega) _).cell (p := ⟨w.heap.size, 0, none⟩) (by dsimp only; omega)).trans c1, (((KK103.out.setCell (p := ⟨wB.heap.size, 0, none⟩) (by dsimp only; omega) _).setCell (p := ⟨wB.heap.size, 1, none⟩) (by dsimp only; omega) _).cell (p := ⟨g5, 1, none⟩) (by dsimp only; omega)).trans c4, ((KK103.out.setCell (p := ⟨wB.heap.size, 0, none⟩) (by dsimp only; omega) _).setCell (p := ⟨wB.heap.size, 1, none⟩) (by dsimp only; omega) _)⟩
                  clear hK K
                  try simp only [Act.put, List.setIfInBounds_toArray, List.set_cons_zero, List.set_cons_succ]
                  refine wpAnyH_done (by kernel_rfl) ?_ _
                  go_wp2_with fail
                  go_meet
                  have hrow := EE105.out
                  rw [← FL2.out] at hrow
                  obtain ⟨_, _, hvD, _, hcD⟩ := vals_of_row hrow
                  simp only [Value.slice.injEq] at hvD
                  obtain ⟨rfl, _, rfl⟩ := hvD
                  exact box_out (n + 1) (m + 1) HN1.out HM1.out PP104.out hcD ((HC4.out.step KK103.out).more KK103.out.size) (own_ne (fun e => by cases apD.own with | inl k => (rw [k] at e; first | (have h := (apB.row.lt _ e).2; omega) | (rcases apB.own with k2 | k2 <;> (rw [k2] at e; simp [Value.ownBlock] at e; try omega))) | inr k => (first | (have h := (apD.row.lt _ e).2; omega) | (rw [k] at e; simp [Value.ownBlock] at e; try omega)))) (HC4.out.lt (by omega)) (by omega) KK103.out
                exact AllReadyH.nil
              exact AllReadyH.nil
            exact AllReadyH.nil
          refine AllReadyH.cons (o := ⟨some 6, _, _, _, _, _⟩) rfl (fun K hK => ?_) ?_
          · go_simp
            refine hK.out _ _ ?_ (fun hHeld => ?_)
            · exact ⟨((KK87.out.alloc KK87.out.size _).cell (p := ⟨w.heap.size, 0, none⟩) (by dsimp only; omega)).trans c1, ((KK87.out.alloc KK87.out.size _).cell (p := ⟨g5, 1, none⟩) (by dsimp only; omega)).trans c4, (KK87.out.alloc KK87.out.size _)⟩
            clear hK K
            try simp only [Act.put, List.setIfInBounds_toArray, List.set_cons_zero, List.set_cons_succ]
            have KK106 := Lib.hid (KK87.out.alloc KK87.out.size (Obj.cells #[.slice none 0 0, .slice none 0 0] 25))
            have EE107 := Lib.hid (EE89.out.alloc (Obj.cells #[.slice none 0 0, .slice none 0 0] 25))
            have NN108 := Lib.hid (blk_alloc NN88.out (Obj.cells #[.slice none 0 0, .slice none 0 0] 25))
            have PP109 := Lib.hid (blk_new ((w4.drew.alloc (Obj.cells #[.int .i64 v] 3)).alloc (Obj.cells #[] 3)) (Obj.cells #[.slice none 0 0, .slice none 0 0] 25) (w4.heap.size + 1 + 1) (by first | (simp; done) | (simp; omega) | omega))
            refine wpAnyH_ready (rs := [3]) (by kernel_rfl) (by simp) ?_
            refine AllReadyH.cons (o := ⟨some 42, _, _, _, _, _⟩) rfl (fun K hK => ?_) ?_
            · refine step_append_full (by rfl) _ _ (by rfl) w4.heap.size i0 _ 1 8 und_is und_is h0z h0a h0b h0c rfl (by omega) (.slice (some ⟨w4.heap.size + 1, 0, none⟩) 0 0) 0 [] (by rfl) EE107.out A n cv (vs.map iV) (by rfl) FLV (ints_news (HIN4.out.rv.step KK106.out)) (ints_one vs) (HIN4.out.nv) (by simp [maxLen]; omega) (by omega) (KK106.out.size) ?_
              intro aB cB wB apB
              simp only [Nat.zero_add, List.nil_append] at apB ⊢
              have KK110 := Lib.hid (KK106.out.grown apB.grew KK106.out.size (fun k e => (EE107.out.lt k e).1))
              have zB : w4.heap.size + 1 + 1 + 1 ≤ wB.heap.size := by have h := apB.grew.size; (try simp at h); omega
              have NN111 := Lib.hid ((apB.grew.block (w4.heap.size) (by first | (simp; done) | (simp; omega) | omega) (by first | (simp [Value.ownBlock]; done) | (simp [Value.ownBlock]; omega))).trans NN108.out)
              have PP112 := Lib.hid ((apB.grew.block (w4.heap.size + 1 + 1) (by first | (simp; done) | (simp; omega) | omega) (by first | (simp [Value.ownBlock]; done) | (simp [Value.ownBlock]; omega))).trans PP109.out)
              have EE113 := Lib.hid apB.row
              refine hK.out _ _ ?_ (fun hHeld => ?_)
              · exact ⟨(KK110.out.cell (p := ⟨w.heap.size, 0, none⟩) (by dsimp only; omega)).trans c1, (KK110.out.cell (p := ⟨g5, 1, none⟩) (by dsimp only; omega)).trans c4, KK110.out⟩
              clear hK K
              try simp only [Act.put, List.setIfInBounds_toArray, List.set_cons_zero, List.set_cons_succ]
              refine wpAnyH_ready (rs := [6]) (by kernel_rfl) (by simp) ?_
              refine AllReadyH.cons (o := ⟨some 45, _, _, _, _, _⟩) rfl (fun K hK => ?_) ?_
              · refine step_append_full (by rfl) _ _ (by rfl) w4.heap.size i0 _ 1 8 und_is und_is h0z h0a h0b h0c rfl (by omega) (.slice aB (n) cB) (n) (vs.map iV) (by rfl) EE113.out (some ⟨w4.heap.size, 0, none⟩) 1 1 [.int .i64 v] (by rfl) (by rfl) (fun j u hu => ⟨_, rfl, World.news_of_block (cs := #[.int .i64 v]) (t := 3) (fr := (0, 0)) NN111.out j u hu⟩) (by simp [Value.oneCell']) (by simp) (by simp [maxLen]; omega) (by omega) (KK110.out.size) ?_
                intro aD cD wD apD
                have KK114 := Lib.hid (KK110.out.grown apD.grew KK110.out.size (fun k e => (EE113.out.lt k e).1))
                have zD : wB.heap.size ≤ wD.heap.size := by have h := apD.grew.size; (try simp at h); omega
                have PP115 := Lib.hid ((apD.grew.block (w4.heap.size + 1 + 1) (by first | (simp; done) | (simp; omega) | omega) (fun e => by first | (have h := (apB.row.lt _ e.symm).2; omega) | (rcases apB.own with k | k <;> (rw [k] at e; simp [Value.ownBlock] at e; try omega)))).trans PP112.out)
                have EE116 := Lib.hid apD.row
                refine hK.out _ _ ?_ (fun hHeld => ?_)
                · exact ⟨(KK114.out.cell (p := ⟨w.heap.size, 0, none⟩) (by dsimp only; omega)).trans c1, (KK114.out.cell (p := ⟨g5, 1, none⟩) (by dsimp only; omega)).trans c4, KK114.out⟩
                clear hK K
                try simp only [Act.put, List.setIfInBounds_toArray, List.set_cons_zero, List.set_cons_succ]
                refine wpAnyH_take (i := 9) (oi := ⟨some 48, _, _, _, _, _⟩) (v := ?_) rfl (by kernel_rfl) (by kernel_rfl) (by kernel_rfl) (fun _ _ _ h => h) (Or.inl ⟨by rfl, ?_⟩) (by assumption) ?_
                rotate_left
                · (intro w hSw; (try dsimp only at hSw); go_simp; (try with_reducible rfl))
                try simp only [Act.put, List.setIfInBounds_toArray, List.set_cons_zero, List.set_cons_succ]
                refine wpAnyH_ready (rs := [11]) (by kernel_rfl) (by simp) ?_
                refine AllReadyH.cons (o := ⟨none, _, _, _, _, _⟩) rfl (fun K hK => ?_) ?_
                · have q0 := blk_cell PP115.out (j := 0) (u := .slice none 0 0) rfl
                  have q1 := blk_cell PP115.out (j := 1) (u := .slice none 0 0) rfl
                  obtain ⟨q0, f0⟩ := q0
                  obtain ⟨q1, f1⟩ := q1
                  go_simp
                  refine hK.out _ _ ?_ (fun hHeld => ?_)
                  · exact ⟨(((KK114.out.setCell (p := ⟨w4.heap.size + 1 + 1, 0, none⟩) (by dsimp only; omega) _).setCell (p := ⟨w4.heap.size + 1 + 1, 1, none⟩) (by dsimp only; omega) _).cell (p := ⟨w.heap.size, 0, none⟩) (by dsimp only; omega)).trans c1, (((KK114.out.setCell (p := ⟨w4.heap.size + 1 + 1, 0, none⟩) (by dsimp only; omega) _).setCell (p := ⟨w4.heap.size + 1 + 1, 1, none⟩) (by dsimp only; omega) _).cell (p := ⟨g5, 1, none⟩) (by dsimp only; omega)).trans c4, ((KK114.out.setCell (p := ⟨w4.heap.size + 1 + 1, 0, none⟩) (by dsimp only; omega) _).setCell (p := ⟨w4.heap.size + 1 + 1, 1, none⟩) (by dsimp only; omega) _)⟩
                  clear hK K
                  try simp only [Act.put, List.setIfInBounds_toArray, List.set_cons_zero, List.set_cons_succ]
                  refine wpAnyH_done (by kernel_rfl) ?_ _
                  go_wp2_with fail
                  go_meet
                  have hrow := EE116.out
                  rw [← FL2.out] at hrow
                  obtain ⟨_, _, hvD, _, hcD⟩ := vals_of_row hrow
                  simp only [Value.slice.injEq] at hvD
                  obtain ⟨rfl, _, rfl⟩ := hvD
                  exact box_out (n + 1) (m + 1) HN1.out HM1.out PP115.out hcD ((HC4.out.step KK114.out).more KK114.out.size) (own_ne (fun e => by cases apD.own with | inl k => (rw [k] at e; first | (have h := (apB.row.lt _ e).2; omega) | (rcases apB.own with k2 | k2 <;> (rw [k2] at e; simp [Value.ownBlock] at e; try omega))) | inr k => (first | (have h := (apD.row.lt _ e).2; omega) | (rw [k] at e; simp [Value.ownBlock] at e; try omega)))) (HC4.out.lt (by omega)) (by omega) KK114.out
                exact AllReadyH.nil
              exact AllReadyH.nil
            exact AllReadyH.nil
          exact AllReadyH.nil
        refine AllReadyH.cons (o := ⟨some 6, _, _, _, _, _⟩) rfl (fun K hK => ?_) ?_
        · go_simp
          refine hK.out _ _ ?_ (fun hHeld => ?_)
          · exact ⟨((KK85.out.alloc KK85.out.size _).cell (p := ⟨w.heap.size, 0, none⟩) (by dsimp only; omega)).trans c1, ((KK85.out.alloc KK85.out.size _).cell (p := ⟨g5, 1, none⟩) (by dsimp only; omega)).trans c4, (KK85.out.alloc KK85.out.size _)⟩
          clear hK K
          try simp only [Act.put, List.setIfInBounds_toArray, List.set_cons_zero, List.set_cons_succ]
          have KK117 := Lib.hid (KK85.out.alloc KK85.out.size (Obj.cells #[.slice none 0 0, .slice none 0 0] 25))
          have NN118 := Lib.hid (blk_alloc NN86.out (Obj.cells #[.slice none 0 0, .slice none 0 0] 25))
          have PP119 := Lib.hid (blk_new (w4.drew.alloc (Obj.cells #[.int .i64 v] 3)) (Obj.cells #[.slice none 0 0, .slice none 0 0] 25) (w4.heap.size + 1) (by first | (simp; done) | (simp; omega) | omega))
          refine wpAnyH_ready (rs := [0]) (by kernel_rfl) (by simp) ?_
          refine AllReadyH.cons (o := ⟨some 39, _, _, _, _, _⟩) rfl (fun K hK => ?_) ?_
          · go_simp
            refine hK.out _ _ ?_ (fun hHeld => ?_)
            · exact ⟨((KK117.out.alloc KK117.out.size _).cell (p := ⟨w.heap.size, 0, none⟩) (by dsimp only; omega)).trans c1, ((KK117.out.alloc KK117.out.size _).cell (p := ⟨g5, 1, none⟩) (by dsimp only; omega)).trans c4, (KK117.out.alloc KK117.out.size _)⟩
            clear hK K
            try simp only [Act.put, List.setIfInBounds_toArray, List.set_cons_zero, List.set_cons_succ]
            have KK120 := Lib.hid (KK117.out.alloc KK117.out.size (Obj.cells #[] 3))
            have NN121 := Lib.hid (blk_alloc NN118.out (Obj.cells #[] 3))
            have PP122 := Lib.hid (blk_alloc PP119.out (Obj.cells #[] 3))
            have EE123 := Lib.hid (own_made' ((w4.drew.alloc (Obj.cells #[.int .i64 v] 3)).alloc (Obj.cells #[.slice none 0 0, .slice none 0 0] 25)) 3 (w4.heap.size) 1 (w4.heap.size + 1 + 1) (by first | (simp; done) | (simp; omega) | omega) KK117.out.size)
            refine wpAnyH_ready (rs := [3]) (by kernel_rfl) (by simp) ?_
            refine AllReadyH.cons (o := ⟨some 42, _, _, _, _, _⟩) rfl (fun K hK => ?_) ?_
            · refine step_append_full (by rfl) _ _ (by rfl) w4.heap.size i0 _ 1 8 und_is und_is h0z h0a h0b h0c rfl (by omega) (.slice (some ⟨w4.heap.size + 1 + 1, 0, none⟩) 0 0) 0 [] (by rfl) EE123.out A n cv (vs.map iV) (by rfl) FLV (ints_news (HIN4.out.rv.step KK120.out)) (ints_one vs) (HIN4.out.nv) (by simp [maxLen]; omega) (by omega) (KK120.out.size) ?_
              intro aB cB wB apB
              simp only [Nat.zero_add, List.nil_append] at apB ⊢
              have KK124 := Lib.hid (KK120.out.grown apB.grew KK120.out.size (fun k e => (EE123.out.lt k e).1))
              have zB : w4.heap.size + 1 + 1 + 1 ≤ wB.heap.size := by have h := apB.grew.size; (try simp at h); omega
              have NN125 := Lib.hid ((apB.grew.block (w4.heap.size) (by first | (simp; done) | (simp; omega) | omega) (by first | (simp [Value.ownBlock]; done) | (simp [Value.ownBlock]; omega))).trans NN121.out)
              have PP126 := Lib.hid ((apB.grew.block (w4.heap.size + 1) (by first | (simp; done) | (simp; omega) | omega) (by first | (simp [Value.ownBlock]; done) | (simp [Value.ownBlock]; omega))).trans PP122.out)
              have EE127 := Lib.hid apB.row
              refine hK.out _ _ ?_ (fun hHeld => ?_)
              · exact ⟨(KK124.out.cell (p := ⟨w.heap.size, 0, none⟩) (by dsimp only; omega)).trans c1, (KK124.out.cell (p := ⟨g5, 1, none⟩) (by dsimp only; omega)).trans c4, KK124.out⟩
              clear hK K
              try simp only [Act.put, List.setIfInBounds_toArray, List.set_cons_zero, List.set_cons_succ]
              refine wpAnyH_ready (rs := [6]) (by kernel_rfl) (by simp) ?_
              refine AllReadyH.cons (o := ⟨some 45, _, _, _, _, _⟩) rfl (fun K hK => ?_) ?_
              · refine step_append_full (by rfl) _ _ (by rfl) w4.heap.size i0 _ 1 8 und_is und_is h0z h0a h0b h0c rfl (by omega) (.slice aB (n) cB) (n) (vs.map iV) (by rfl) EE127.out (some ⟨w4.heap.size, 0, none⟩) 1 1 [.int .i64 v] (by rfl) (by rfl) (fun j u hu => ⟨_, rfl, World.news_of_block (cs := #[.int .i64 v]) (t := 3) (fr := (0, 0)) NN125.out j u hu⟩) (by simp [Value.oneCell']) (by simp) (by simp [maxLen]; omega) (by omega) (KK124.out.size) ?_
                intro aD cD wD apD
                have KK128 := Lib.hid (KK124.out.grown apD.grew KK124.out.size (fun k e => (EE127.out.lt k e).1))
                have zD : wB.heap.size ≤ wD.heap.size := by have h := apD.grew.size; (try simp at h); omega
                have PP129 := Lib.hid ((apD.grew.block (w4.heap.size + 1) (by first | (simp; done) | (simp; omega) | omega) (fun e => by first | (have h := (apB.row.lt _ e.symm).2; omega) | (rcases apB.own with k | k <;> (rw [k] at e; simp [Value.ownBlock] at e; try omega)))).trans PP126.out)
                have EE130 := Lib.hid apD.row
                refine hK.out _ _ ?_ (fun hHeld => ?_)
                · exact ⟨(KK128.out.cell (p := ⟨w.heap.size, 0, none⟩) (by dsimp only; omega)).trans c1, (KK128.out.cell (p := ⟨g5, 1, none⟩) (by dsimp only; omega)).trans c4, KK128.out⟩
                clear hK K
                try simp only [Act.put, List.setIfInBounds_toArray, List.set_cons_zero, List.set_cons_succ]
                refine wpAnyH_take (i := 9) (oi := ⟨some 48, _, _, _, _, _⟩) (v := ?_) rfl (by kernel_rfl) (by kernel_rfl) (by kernel_rfl) (fun _ _ _ h => h) (Or.inl ⟨by rfl, ?_⟩) (by assumption) ?_
                rotate_left
                · (intro w hSw; (try dsimp only at hSw); go_simp; (try with_reducible rfl))
                try simp only [Act.put, List.setIfInBounds_toArray, List.set_cons_zero, List.set_cons_succ]
                refine wpAnyH_ready (rs := [11]) (by kernel_rfl) (by simp) ?_
                refine AllReadyH.cons (o := ⟨none, _, _, _, _, _⟩) rfl (fun K hK => ?_) ?_
                · have q0 := blk_cell PP129.out (j := 0) (u := .slice none 0 0) rfl
                  have q1 := blk_cell PP129.out (j := 1) (u := .slice none 0 0) rfl
                  obtain ⟨q0, f0⟩ := q0
                  obtain ⟨q1, f1⟩ := q1
                  go_simp
                  refine hK.out _ _ ?_ (fun hHeld => ?_)
                  · exact ⟨(((KK128.out.setCell (p := ⟨w4.heap.size + 1, 0, none⟩) (by dsimp only; omega) _).setCell (p := ⟨w4.heap.size + 1, 1, none⟩) (by dsimp only; omega) _).cell (p := ⟨w.heap.size, 0, none⟩) (by dsimp only; omega)).trans c1, (((KK128.out.setCell (p := ⟨w4.heap.size + 1, 0, none⟩) (by dsimp only; omega) _).setCell (p := ⟨w4.heap.size + 1, 1, none⟩) (by dsimp only; omega) _).cell (p := ⟨g5, 1, none⟩) (by dsimp only; omega)).trans c4, ((KK128.out.setCell (p := ⟨w4.heap.size + 1, 0, none⟩) (by dsimp only; omega) _).setCell (p := ⟨w4.heap.size + 1, 1, none⟩) (by dsimp only; omega) _)⟩
                  clear hK K
                  try simp only [Act.put, List.setIfInBounds_toArray, List.set_cons_zero, List.set_cons_succ]
                  refine wpAnyH_done (by kernel_rfl) ?_ _
                  go_wp2_with fail
                  go_meet
                  have hrow := EE130.out
                  rw [← FL2.out] at hrow
                  obtain ⟨_, _, hvD, _, hcD⟩ := vals_of_row hrow
                  simp only [Value.slice.injEq] at hvD
                  obtain ⟨rfl, _, rfl⟩ := hvD
                  exact box_out (n + 1) (m + 1) HN1.out HM1.out PP129.out hcD ((HC4.out.step KK128.out).more KK128.out.size) (own_ne (fun e => by cases apD.own with | inl k => (rw [k] at e; first | (have h := (apB.row.lt _ e).2; omega) | (rcases apB.own with k2 | k2 <;> (rw [k2] at e; simp [Value.ownBlock] at e; try omega))) | inr k => (first | (have h := (apD.row.lt _ e).2; omega) | (rw [k] at e; simp [Value.ownBlock] at e; try omega)))) (HC4.out.lt (by omega)) (by omega) KK128.out
                exact AllReadyH.nil
              exact AllReadyH.nil
            exact AllReadyH.nil
          exact AllReadyH.nil
        exact AllReadyH.nil
      refine AllReadyH.cons (o := ⟨some 6, _, _, _, _, _⟩) rfl (fun K hK => ?_) ?_
      · go_simp
        refine hK.out _ _ ?_ (fun hHeld => ?_)
        · exact ⟨((KK0.out.alloc KK0.out.size _).cell (p := ⟨w.heap.size, 0, none⟩) (by dsimp only; omega)).trans c1, ((KK0.out.alloc KK0.out.size _).cell (p := ⟨g5, 1, none⟩) (by dsimp only; omega)).trans c4, (KK0.out.alloc KK0.out.size _)⟩
        clear hK K
        try simp only [Act.put, List.setIfInBounds_toArray, List.set_cons_zero, List.set_cons_succ]
        have KK131 := Lib.hid (KK0.out.alloc KK0.out.size (Obj.cells #[.slice none 0 0, .slice none 0 0] 25))
        have PP132 := Lib.hid (blk_new w4.drew (Obj.cells #[.slice none 0 0, .slice none 0 0] 25) (w4.heap.size) (by first | (simp; done) | (simp; omega) | omega))
        refine wpAnyH_ready (rs := [0, 5]) (by kernel_rfl) (by simp) ?_
        refine AllReadyH.cons (o := ⟨some 39, _, _, _, _, _⟩) rfl (fun K hK => ?_) ?_
        · go_simp
          refine hK.out _ _ ?_ (fun hHeld => ?_)
          · exact ⟨((KK131.out.alloc KK131.out.size _).cell (p := ⟨w.heap.size, 0, none⟩) (by dsimp only; omega)).trans c1, ((KK131.out.alloc KK131.out.size _).cell (p := ⟨g5, 1, none⟩) (by dsimp only; omega)).trans c4, (KK131.out.alloc KK131.out.size _)⟩
          clear hK K
          try simp only [Act.put, List.setIfInBounds_toArray, List.set_cons_zero, List.set_cons_succ]
          have KK133 := Lib.hid (KK131.out.alloc KK131.out.size (Obj.cells #[] 3))
          have PP134 := Lib.hid (blk_alloc PP132.out (Obj.cells #[] 3))
          have EE135 := Lib.hid (own_made' (w4.drew.alloc (Obj.cells #[.slice none 0 0, .slice none 0 0] 25)) 3 (w4.heap.size) 1 (w4.heap.size + 1) (by first | (simp; done) | (simp; omega) | omega) KK131.out.size)
          refine wpAnyH_ready (rs := [3, 5]) (by kernel_rfl) (by simp) ?_
          refine AllReadyH.cons (o := ⟨some 42, _, _, _, _, _⟩) rfl (fun K hK => ?_) ?_
          · refine step_append_full (by rfl) _ _ (by rfl) w4.heap.size i0 _ 1 8 und_is und_is h0z h0a h0b h0c rfl (by omega) (.slice (some ⟨w4.heap.size + 1, 0, none⟩) 0 0) 0 [] (by rfl) EE135.out A n cv (vs.map iV) (by rfl) FLV (ints_news (HIN4.out.rv.step KK133.out)) (ints_one vs) (HIN4.out.nv) (by simp [maxLen]; omega) (by omega) (KK133.out.size) ?_
            intro aB cB wB apB
            simp only [Nat.zero_add, List.nil_append] at apB ⊢
            have KK136 := Lib.hid (KK133.out.grown apB.grew KK133.out.size (fun k e => (EE135.out.lt k e).1))
            have zB : w4.heap.size + 1 + 1 ≤ wB.heap.size := by have h := apB.grew.size; (try simp at h); omega
            have PP137 := Lib.hid ((apB.grew.block (w4.heap.size) (by first | (simp; done) | (simp; omega) | omega) (by first | (simp [Value.ownBlock]; done) | (simp [Value.ownBlock]; omega))).trans PP134.out)
            have EE138 := Lib.hid apB.row
            refine hK.out _ _ ?_ (fun hHeld => ?_)
            · exact ⟨(KK136.out.cell (p := ⟨w.heap.size, 0, none⟩) (by dsimp only; omega)).trans c1, (KK136.out.cell (p := ⟨g5, 1, none⟩) (by dsimp only; omega)).trans c4, KK136.out⟩
            clear hK K
            try simp only [Act.put, List.setIfInBounds_toArray, List.set_cons_zero, List.set_cons_succ]
            refine wpAnyH_ready (rs := [5]) (by kernel_rfl) (by simp) ?_
            refine AllReadyH.cons (o := ⟨some 44, _, _, _, _, _⟩) rfl (fun K hK => ?_) ?_
            · go_simp
              refine hK.out _ _ ?_ (fun hHeld => ?_)
              · exact ⟨((KK136.out.alloc KK136.out.size _).cell (p := ⟨w.heap.size, 0, none⟩) (by dsimp only; omega)).trans c1, ((KK136.out.alloc KK136.out.size _).cell (p := ⟨g5, 1, none⟩) (by dsimp only; omega)).trans c4, (KK136.out.alloc KK136.out.size _)⟩
              clear hK K
              try simp only [Act.put, List.setIfInBounds_toArray, List.set_cons_zero, List.set_cons_succ]
              have KK139 := Lib.hid (KK136.out.alloc KK136.out.size (Obj.cells #[.int .i64 v] 3))
              have EE140 := Lib.hid (EE138.out.alloc (Obj.cells #[.int .i64 v] 3))
              have PP141 := Lib.hid (blk_alloc PP137.out (Obj.cells #[.int .i64 v] 3))
              have NN142 := Lib.hid (blk_new wB (Obj.cells #[.int .i64 v] 3) (wB.heap.size) (by first | (simp; done) | (simp; omega) | omega))
              refine wpAnyH_ready (rs := [6]) (by kernel_rfl) (by simp) ?_
              refine AllReadyH.cons (o := ⟨some 45, _, _, _, _, _⟩) rfl (fun K hK => ?_) ?_
              · refine step_append_full (by rfl) _ _ (by rfl) w4.heap.size i0 _ 1 8 und_is und_is h0z h0a h0b h0c rfl (by omega) (.slice aB (n) cB) (n) (vs.map iV) (by rfl) EE140.out (some ⟨wB.heap.size, 0, none⟩) 1 1 [.int .i64 v] (by rfl) (by rfl) (fun j u hu => ⟨_, rfl, World.news_of_block (cs := #[.int .i64 v]) (t := 3) (fr := (0, 0)) NN142.out j u hu⟩) (by simp [Value.oneCell']) (by simp) (by simp [maxLen]; omega) (by omega) (KK139.out.size) ?_
                intro aD cD wD apD
                have KK143 := Lib.hid (KK139.out.grown apD.grew KK139.out.size (fun k e => (EE140.out.lt k e).1))
                have zD : wB.heap.size + 1 ≤ wD.heap.size := by have h := apD.grew.size; (try simp at h); omega
                have PP144 := Lib.hid ((apD.grew.block (w4.heap.size) (by first | (simp; done) | (simp; omega) | omega) (fun e => by first | (have h := (apB.row.lt _ e.symm).2; omega) | (rcases apB.own with k | k <;> (rw [k] at e; simp [Value.ownBlock] at e; try omega)))).trans PP141.out)
                have EE145 := Lib.hid apD.row
                refine hK.out _ _ ?_ (fun hHeld => ?_)
                · exact ⟨(KK143.out.cell (p := ⟨w.heap.size, 0, none⟩) (by dsimp only; omega)).trans c1, (KK143.out.cell (p := ⟨g5, 1, none⟩) (by dsimp only; omega)).trans c4, KK143.out⟩
                clear hK K
                try simp only [Act.put, List.setIfInBounds_toArray, List.set_cons_zero, List.set_cons_succ]
                refine wpAnyH_take (i := 9) (oi := ⟨some 48, _, _, _, _, _⟩) (v := ?_) rfl (by kernel_rfl) (by kernel_rfl) (by kernel_rfl) (fun _ _ _ h => h) (Or.inl ⟨by rfl, ?_⟩) (by assumption) ?_
                rotate_left
                · (intro w hSw; (try dsimp only at hSw); go_simp; (try with_reducible rfl))
                try simp only [Act.put, List.setIfInBounds_toArray, List.set_cons_zero, List.set_cons_succ]
                refine wpAnyH_ready (rs := [11]) (by kernel_rfl) (by simp) ?_
                refine AllReadyH.cons (o := ⟨none, _, _, _, _, _⟩) rfl (fun K hK => ?_) ?_
                · have q0 := blk_cell PP144.out (j := 0) (u := .slice none 0 0) rfl
                  have q1 := blk_cell PP144.out (j := 1) (u := .slice none 0 0) rfl
                  obtain ⟨q0, f0⟩ := q0
                  obtain ⟨q1, f1⟩ := q1
                  go_simp
                  refine hK.out _ _ ?_ (fun hHeld => ?_)
                  · exact ⟨(((KK143.out.setCell (p := ⟨w4.heap.size, 0, none⟩) (by dsimp only; omega) _).setCell (p := ⟨w4.heap.size, 1, none⟩) (by dsimp only; omega) _).cell (p := ⟨w.heap.size, 0, none⟩) (by dsimp only; omega)).trans c1, (((KK143.out.setCell (p := ⟨w4.heap.size, 0, none⟩) (by dsimp only; omega) _).setCell (p := ⟨w4.heap.size, 1, none⟩) (by dsimp only; omega) _).cell (p := ⟨g5, 1, none⟩) (by dsimp only; omega)).trans c4, ((KK143.out.setCell (p := ⟨w4.heap.size, 0, none⟩) (by dsimp only; omega) _).setCell (p := ⟨w4.heap.size, 1, none⟩) (by dsimp only; omega) _)⟩
                  clear hK K
                  try simp only [Act.put, List.setIfInBounds_toArray, List.set_cons_zero, List.set_cons_succ]
                  refine wpAnyH_done (by kernel_rfl) ?_ _
                  go_wp2_with fail
                  go_meet
                  have hrow := EE145.out
                  rw [← FL2.out] at hrow
                  obtain ⟨_, _, hvD, _, hcD⟩ := vals_of_row hrow
                  simp only [Value.slice.injEq] at hvD
                  obtain ⟨rfl, _, rfl⟩ := hvD
                  exact box_out (n + 1) (m + 1) HN1.out HM1.out PP144.out hcD ((HC4.out.step KK143.out).more KK143.out.size) (own_ne (fun e => by cases apD.own with | inl k => (rw [k] at e; first | (have h := (apB.row.lt _ e).2; omega) | (rcases apB.own with k2 | k2 <;> (rw [k2] at e; simp [Value.ownBlock] at e; try omega))) | inr k => (first | (have h := (apD.row.lt _ e).2; omega) | (rw [k] at e; simp [Value.ownBlock] at e; try omega)))) (HC4.out.lt (by omega)) (by omega) KK143.out
                exact AllReadyH.nil
              exact AllReadyH.nil
            exact AllReadyH.nil
          refine AllReadyH.cons (o := ⟨some 44, _, _, _, _, _⟩) rfl (fun K hK => ?_) ?_
          · go_simp
            refine hK.out _ _ ?_ (fun hHeld => ?_)
            · exact ⟨((KK133.out.alloc KK133.out.size _).cell (p := ⟨w.heap.size, 0, none⟩) (by dsimp only; omega)).trans c1, ((KK133.out.alloc KK133.out.size _).cell (p := ⟨g5, 1, none⟩) (by dsimp only; omega)).trans c4, (KK133.out.alloc KK133.out.size _)⟩
            clear hK K
            try simp only [Act.put, List.setIfInBounds_toArray, List.set_cons_zero, List.set_cons_succ]
            have KK146 := Lib.hid (KK133.out.alloc KK133.out.size (Obj.cells #[.int .i64 v] 3))
            have EE147 := Lib.hid (EE135.out.alloc (Obj.cells #[.int .i64 v] 3))
            have PP148 := Lib.hid (blk_alloc PP134.out (Obj.cells #[.int .i64 v] 3))
            have NN149 := Lib.hid (blk_new ((w4.drew.alloc (Obj.cells #[.slice none 0 0, .slice none 0 0] 25)).alloc (Obj.cells #[] 3)) (Obj.cells #[.int .i64 v] 3) (w4.heap.size + 1 + 1) (by first | (simp; done) | (simp; omega) | omega))
            refine wpAnyH_ready (rs := [3]) (by kernel_rfl) (by simp) ?_
            refine AllReadyH.cons (o := ⟨some 42, _, _, _, _, _⟩) rfl (fun K hK => ?_) ?_
            · refine step_append_full (by rfl) _ _ (by rfl) w4.heap.size i0 _ 1 8 und_is und_is h0z h0a h0b h0c rfl (by omega) (.slice (some ⟨w4.heap.size + 1, 0, none⟩) 0 0) 0 [] (by rfl) EE147.out A n cv (vs.map iV) (by rfl) FLV (ints_news (HIN4.out.rv.step KK146.out)) (ints_one vs) (HIN4.out.nv) (by simp [maxLen]; omega) (by omega) (KK146.out.size) ?_
              intro aB cB wB apB
              simp only [Nat.zero_add, List.nil_append] at apB ⊢
              have KK150 := Lib.hid (KK146.out.grown apB.grew KK146.out.size (fun k e => (EE147.out.lt k e).1))
              have zB : w4.heap.size + 1 + 1 + 1 ≤ wB.heap.size := by have h := apB.grew.size; (try simp at h); omega
              have NN151 := Lib.hid ((apB.grew.block (w4.heap.size + 1 + 1) (by first | (simp; done) | (simp; omega) | omega) (by first | (simp [Value.ownBlock]; done) | (simp [Value.ownBlock]; omega))).trans NN149.out)
              have PP152 := Lib.hid ((apB.grew.block (w4.heap.size) (by first | (simp; done) | (simp; omega) | omega) (by first | (simp [Value.ownBlock]; done) | (simp [Value.ownBlock]; omega))).trans PP148.out)
              have EE153 := Lib.hid apB.row
              refine hK.out _ _ ?_ (fun hHeld => ?_)
              · exact ⟨(KK150.out.cell (p := ⟨w.heap.size, 0, none⟩) (by dsimp only; omega)).trans c1, (KK150.out.cell (p := ⟨g5, 1, none⟩) (by dsimp only; omega)).trans c4, KK150.out⟩
              clear hK K
              try simp only [Act.put, List.setIfInBounds_toArray, List.set_cons_zero, List.set_cons_succ]
              refine wpAnyH_ready (rs := [6]) (by kernel_rfl) (by simp) ?_
              refine AllReadyH.cons (o := ⟨some 45, _, _, _, _, _⟩) rfl (fun K hK => ?_) ?_
              · refine step_append_full (by rfl) _ _ (by rfl) w4.heap.size i0 _ 1 8 und_is und_is h0z h0a h0b h0c rfl (by omega) (.slice aB (n) cB) (n) (vs.map iV) (by rfl) EE153.out (some ⟨w4.heap.size + 1 + 1, 0, none⟩) 1 1 [.int .i64 v] (by rfl) (by rfl) (fun j u hu => ⟨_, rfl, World.news_of_block (cs := #[.int .i64 v]) (t := 3) (fr := (0, 0)) NN151.out j u hu⟩) (by simp [Value.oneCell']) (by simp) (by simp [maxLen]; omega) (by omega) (KK150.out.size) ?_
                intro aD cD wD apD
                have KK154 := Lib.hid (KK150.out.grown apD.grew KK150.out.size (fun k e => (EE153.out.lt k e).1))
                have zD : wB.heap.size ≤ wD.heap.size := by have h := apD.grew.size; (try simp at h); omega
                have PP155 := Lib.hid ((apD.grew.block (w4.heap.size) (by first | (simp; done) | (simp; omega) | omega) (fun e => by first | (have h := (apB.row.lt _ e.symm).2; omega) | (rcases apB.own with k | k <;> (rw [k] at e; simp [Value.ownBlock] at e; try omega)))).trans PP152.out)
                have EE156 := Lib.hid apD.row
                refine hK.out _ _ ?_ (fun hHeld => ?_)
                · exact ⟨(KK154.out.cell (p := ⟨w.heap.size, 0, none⟩) (by dsimp only; omega)).trans c1, (KK154.out.cell (p := ⟨g5, 1, none⟩) (by dsimp only; omega)).trans c4, KK154.out⟩
                clear hK K
                try simp only [Act.put, List.setIfInBounds_toArray, List.set_cons_zero, List.set_cons_succ]
                refine wpAnyH_take (i := 9) (oi := ⟨some 48, _, _, _, _, _⟩) (v := ?_) rfl (by kernel_rfl) (by kernel_rfl) (by kernel_rfl) (fun _ _ _ h => h) (Or.inl ⟨by rfl, ?_⟩) (by assumption) ?_
                rotate_left
                · (intro w hSw; (try dsimp only at hSw); go_simp; (try with_reducible rfl))
                try simp only [Act.put, List.setIfInBounds_toArray, List.set_cons_zero, List.set_cons_succ]
                refine wpAnyH_ready (rs := [11]) (by kernel_rfl) (by simp) ?_
                refine AllReadyH.cons (o := ⟨none, _, _, _, _, _⟩) rfl (fun K hK => ?_) ?_
                · have q0 := blk_cell PP155.out (j := 0) (u := .slice none 0 0) rfl
                  have q1 := blk_cell PP155.out (j := 1) (u := .slice none 0 0) rfl
                  obtain ⟨q0, f0⟩ := q0
                  obtain ⟨q1, f1⟩ := q1
                  go_simp
                  refine hK.out _ _ ?_ (fun hHeld => ?_)
                  · exact ⟨(((KK154.out.setCell (p := ⟨w4.heap.size, 0, none⟩) (by dsimp only; omega) _).setCell (p := ⟨w4.heap.size, 1, none⟩) (by dsimp only; omega) _).cell (p := ⟨w.heap.size, 0, none⟩) (by dsimp only; omega)).trans c1, (((KK154.out.setCell (p := ⟨w4.heap.size, 0, none⟩) (by dsimp only; omega) _).setCell (p := ⟨w4.heap.size, 1, none⟩) (by dsimp only; omega) _).cell (p := ⟨g5, 1, none⟩) (by dsimp only; omega)).trans c4, ((KK154.out.setCell (p := ⟨w4.heap.size, 0, none⟩) (by dsimp only; omega) _).setCell (p := ⟨w4.heap.size, 1, none⟩) (by dsimp only; omega) _)⟩
                  clear hK K
                  try simp only [Act.put, List.setIfInBounds_toArray, List.set_cons_zero, List.set_cons_succ]
                  refine wpAnyH_done (by kernel_rfl) ?_ _
                  go_wp2_with fail
                  go_meet
                  have hrow := EE156.out
                  rw [← FL2.out] at hrow
                  obtain ⟨_, _, hvD, _, hcD⟩ := vals_of_row hrow
                  simp only [Value.slice.injEq] at hvD
                  obtain ⟨rfl, _, rfl⟩ := hvD
                  exact box_out (n + 1) (m + 1) HN1.out HM1.out PP155.out hcD ((HC4.out.step KK154.out).more KK154.out.size) (own_ne (fun e => by cases apD.own with | inl k => (rw [k] at e; first | (have h := (apB.row.lt _ e).2; omega) | (rcases apB.own with k2 | k2 <;> (rw [k2] at e; simp [Value.ownBlock] at e; try omega))) | inr k => (first | (have h := (apD.row.lt _ e).2; omega) | (rw [k] at e; simp [Value.ownBlock] at e; try omega)))) (HC4.out.lt (by omega)) (by omega) KK154.out
                exact AllReadyH.nil
              exact AllReadyH.nil
            exact AllReadyH.nil
          exact AllReadyH.nil
        refine AllReadyH.cons (o := ⟨some 44, _, _, _, _, _⟩) rfl (fun K hK => ?_) ?_
        · go_simp
          refine hK.out _ _ ?_ (fun hHeld => ?_)
          · exact ⟨((KK131.out.alloc KK131.out.size _).cell (p := ⟨w.heap.size, 0, none⟩) (by dsimp only; omega)).trans c1, ((KK131.out.alloc KK131.out.size _).cell (p := ⟨g5, 1, none⟩) (by dsimp only; omega)).trans c4, (KK131.out.alloc KK131.out.size _)⟩
          clear hK K
          try simp only [Act.put, List.setIfInBounds_toArray, List.set_cons_zero, List.set_cons_succ]
          have KK157 := Lib.hid (KK131.out.alloc KK131.out.size (Obj.cells #[.int .i64 v] 3))
          have PP158 := Lib.hid (blk_alloc PP132.out (Obj.cells #[.int .i64 v] 3))
          have NN159 := Lib.hid (blk_new (w4.drew.alloc (Obj.cells #[.slice none 0 0, .slice none 0 0] 25)) (Obj.cells #[.int .i64 v] 3) (w4.heap.size + 1) (by first | (simp; done) | (simp; omega) | omega))
          refine wpAnyH_ready (rs := [0]) (by kernel_rfl) (by simp) ?_
          refine AllReadyH.cons (o := ⟨some 39, _, _, _, _, _⟩) rfl (fun K hK => ?_) ?_
          · go_simp
            refine hK.out _ _ ?_ (fun hHeld => ?_)
            · exact ⟨((KK157.out.alloc KK157.out.size _).cell (p := ⟨w.heap.size, 0, none⟩) (by dsimp only; omega)).trans c1, ((KK157.out.alloc KK157.out.size _).cell (p := ⟨g5, 1, none⟩) (by dsimp only; omega)).trans c4, (KK157.out.alloc KK157.out.size _)⟩
            clear hK K
            try simp only [Act.put, List.setIfInBounds_toArray, List.set_cons_zero, List.set_cons_succ]
            have KK160 := Lib.hid (KK157.out.alloc KK157.out.size (Obj.cells #[] 3))
            have NN161 := Lib.hid (blk_alloc NN159.out (Obj.cells #[] 3))
            have PP162 := Lib.hid (blk_alloc PP158.out (Obj.cells #[] 3))
            have EE163 := Lib.hid (own_made' ((w4.drew.alloc (Obj.cells #[.slice none 0 0, .slice none 0 0] 25)).alloc (Obj.cells #[.int .i64 v] 3)) 3 (w4.heap.size) 1 (w4.heap.size + 1 + 1) (by first | (simp; done) | (simp; omega) | omega) KK157.out.size)
            refine wpAnyH_ready (rs := [3]) (by kernel_rfl) (by simp) ?_
            refine AllReadyH.cons (o := ⟨some 42, _, _, _, _, _⟩) rfl (fun K hK => ?_) ?_
            · refine step_append_full (by rfl) _ _ (by rfl) w4.heap.size i0 _ 1 8 und_is und_is h0z h0a h0b h0c rfl (by omega) (.slice (some ⟨w4.heap.size + 1 + 1, 0, none⟩) 0 0) 0 [] (by rfl) EE163.out A n cv (vs.map iV) (by rfl) FLV (ints_news (HIN4.out.rv.step KK160.out)) (ints_one vs) (HIN4.out.nv) (by simp [maxLen]; omega) (by omega) (KK160.out.size) ?_
              intro aB cB wB apB
              simp only [Nat.zero_add, List.nil_append] at apB ⊢
              have KK164 := Lib.hid (KK160.out.grown apB.grew KK160.out.size (fun k e => (EE163.out.lt k e).1))
              have zB : w4.heap.size + 1 + 1 + 1 ≤ wB.heap.size := by have h := apB.grew.size; (try simp at h); omega
              have NN165 := Lib.hid ((apB.grew.block (w4.heap.size + 1) (by first | (simp; done) | (simp; omega) | omega) (by first | (simp [Value.ownBlock]; done) | (simp [Value.ownBlock]; omega))).trans NN161.out)
              have PP166 := Lib.hid ((apB.grew.block (w4.heap.size) (by first | (simp; done) | (simp; omega) | omega) (by first | (simp [Value.ownBlock]; done) | (simp [Value.ownBlock]; omega))).trans PP162.out)
              have EE167 := Lib.hid apB.row
              refine hK.out _ _ ?_ (fun hHeld => ?_)
              · exact ⟨(KK164.out.cell (p := ⟨w.heap.size, 0, none⟩) (by dsimp only; omega)).trans c1, (KK164.out.cell (p := ⟨g5, 1, none⟩) (by dsimp only; omega)).trans c4, KK164.out⟩
              clear hK K
              try simp only [Act.put, List.setIfInBounds_toArray, List.set_cons_zero, List.set_cons_succ]
              refine wpAnyH_ready (rs := [6]) (by kernel_rfl) (by simp) ?_
              refine AllReadyH.cons (o := ⟨some 45, _, _, _, _, _⟩) rfl (fun K hK => ?_) ?_
              · refine step_append_full (by rfl) _ _ (by rfl) w4.heap.size i0 _ 1 8 und_is und_is h0z h0a h0b h0c rfl (by omega) (.slice aB (n) cB) (n) (vs.map iV) (by rfl) EE167.out (some ⟨w4.heap.size + 1, 0, none⟩) 1 1 [.int .i64 v] (by rfl) (by rfl) (fun j u hu => ⟨_, rfl, World.news_of_block (cs := #[.int .i64 v]) (t := 3) (fr := (0, 0)) NN165.out j u hu⟩) (by simp [Value.oneCell']) (by simp) (by simp [maxLen]; omega) (by omega) (KK164.out.size) ?_
                intro aD cD wD apD
                have KK168 := Lib.hid (KK164.out.grown apD.grew KK164.out.size (fun k e => (EE167.out.lt k e).1))
                have zD : wB.heap.size ≤ wD.heap.size := by have h := apD.grew.size; (try simp at h); omega
                have PP169 := Lib.hid ((apD.grew.block (w4.heap.size) (by first | (simp; done) | (simp; omega) | omega) (fun e => by first | (have h := (apB.row.lt _ e.symm).2; omega) | (rcases apB.own with k | k <;> (rw [k] at e; simp [Value.ownBlock] at e; try omega)))).trans PP166.out)
                have EE170 := Lib.hid apD.row
                refine hK.out _ _ ?_ (fun hHeld => ?_)
                · exact ⟨(KK168.out.cell (p := ⟨w.heap.size, 0, none⟩) (by dsimp only; omega)).trans c1, (KK168.out.cell (p := ⟨g5, 1, none⟩) (by dsimp only; omega)).trans c4, KK168.out⟩
                clear hK K
                try simp only [Act.put, List.setIfInBounds_toArray, List.set_cons_zero, List.set_cons_succ]
                refine wpAnyH_take (i := 9) (oi := ⟨some 48, _, _, _, _, _⟩) (v := ?_) rfl (by kernel_rfl) (by kernel_rfl) (by kernel_rfl) (fun _ _ _ h => h) (Or.inl ⟨by rfl, ?_⟩) (by assumption) ?_
                rotate_left
                · (intro w hSw; (try dsimp only at hSw); go_simp; (try with_reducible rfl))
                try simp only [Act.put, List.setIfInBounds_toArray, List.set_cons_zero, List.set_cons_succ]
                refine wpAnyH_ready (rs := [11]) (by kernel_rfl) (by simp) ?_
                refine AllReadyH.cons (o := ⟨none, _, _, _, _, _⟩) rfl (fun K hK => ?_) ?_
                · have q0 := blk_cell PP169.out (j := 0) (u := .slice none 0 0) rfl
                  have q1 := blk_cell PP169.out (j := 1) (u := .slice none 0 0) rfl
                  obtain ⟨q0, f0⟩ := q0
                  obtain ⟨q1, f1⟩ := q1
                  go_simp
                  refine hK.out _ _ ?_ (fun hHeld => ?_)
                  · exact ⟨(((KK168.out.setCell (p := ⟨w4.heap.size, 0, none⟩) (by dsimp only; omega) _).setCell (p := ⟨w4.heap.size, 1, none⟩) (by dsimp only; omega) _).cell (p := ⟨w.heap.size, 0, none⟩) (by dsimp only; omega)).trans c1, (((KK168.out.setCell (p := ⟨w4.heap.size, 0, none⟩) (by dsimp only; omega) _).setCell (p := ⟨w4.heap.size, 1, none⟩) (by dsimp only; omega) _).cell (p := ⟨g5, 1, none⟩) (by dsimp only; omega)).trans c4, ((KK168.out.setCell (p := ⟨w4.heap.size, 0, none⟩) (by dsimp only; omega) _).setCell (p := ⟨w4.heap.size, 1, none⟩) (by dsimp only; omega) _)⟩
                  clear hK K
                  try simp only [Act.put, List.setIfInBounds_toArray, List.set_cons_zero, List.set_cons_succ]
                  refine wpAnyH_done (by kernel_rfl) ?_ _
                  go_wp2_with fail
                  go_meet
                  have hrow := EE170.out
                  rw [← FL2.out] at hrow
                  obtain ⟨_, _, hvD, _, hcD⟩ := vals_of_row hrow
                  simp only [Value.slice.injEq] at hvD
                  obtain ⟨rfl, _, rfl⟩ := hvD
                  exact box_out (n + 1) (m + 1) HN1.out HM1.out PP169.out hcD ((HC4.out.step KK168.out).more KK168.out.size) (own_ne (fun e => by cases apD.own with | inl k => (rw [k] at e; first | (have h := (apB.row.lt _ e).2; omega) | (rcases apB.own with k2 | k2 <;> (rw [k2] at e; simp [Value.ownBlock] at e; try omega))) | inr k => (first | (have h := (apD.row.lt _ e).2; omega) | (rw [k] at e; simp [Value.ownBlock] at e; try omega)))) (HC4.out.lt (by omega)) (by omega) KK168.out
                exact AllReadyH.nil
              exact AllReadyH.nil
            exact AllReadyH.nil
          exact AllReadyH.nil
        exact AllReadyH.nil
      exact AllReadyH.nil
    case rest =>
      obtain ⟨w5, hw5⟩ : ∃ w5 : World, w5 = wc := ⟨_, rfl⟩
      subst hw5
      obtain ⟨g6, A6, k6, M6, d6, rfl, ⟨c5, c6⟩, hv6, hc6, ⟨hg6, hl6⟩, h5⟩ := hcut
      rw [HM1.out] at c6
      rw [HN1.out] at c5
      replace c1 := (h5.cell (by (try dsimp only); omega)).trans c1
      replace c2 := (h5.cell (by (try dsimp only); omega)).trans c2
      replace c3 := (h5.cell (by (try dsimp only); omega)).trans c3
      replace c4 := (h5.cell (by (try dsimp only); omega)).trans c4
      replace hb := hb.trans (h5.mono hb.size)
      have z5 := h5.size
      have HIN5 := Lib.hid (HIN.out.calls hb)
      have HC5 := Lib.hid ((HC4.out.step h5).more h5.size)
      have HV5 := Lib.hid (HV4.out.calls h5)
      have HC6 := Lib.hid hc6
      have HV6 := Lib.hid hv6
      clear hc6 hv6 h5 HC4 HV4
      go_upto_region 5 with fail
      go_cut [7] (fun s7 z => BoxOut w5 (2 :: vs) ps s7 z)
      case first =>
        have KK0 := Lib.hid (show Below w5.heap.size w5 w5.drew from (Below.refl _ _).drew)
        refine wp_region_held_drew (S := fun z => z.cell? ⟨w.heap.size, 0, none⟩ = some (.slice A n cv) ∧ z.cell? ⟨w.heap.size, 1, none⟩ = some (.slice B m cp) ∧ Below w5.heap.size w5 z) (by kernel_rfl) ⟨(KK0.out.cell (p := ⟨w.heap.size, 0, none⟩) (by dsimp only; omega)).trans c1, (KK0.out.cell (p := ⟨w.heap.size, 1, none⟩) (by dsimp only; omega)).trans c2, KK0.out⟩ (fun hHeld => ?_)
        refine wpAnyH_take (i := 1) (oi := ⟨some 50, _, _, _, _, _⟩) (v := ?_) rfl (by kernel_rfl) (by kernel_rfl) (by kernel_rfl) (fun _ _ _ h => h) (Or.inl ⟨by rfl, ?_⟩) (by assumption) ?_
        rotate_left
        · (intro w hSw; (try dsimp only at hSw); go_simp; (try with_reducible rfl))
        try simp only [Act.put, List.setIfInBounds_toArray, List.set_cons_zero, List.set_cons_succ]
        refine wpAnyH_take (i := 2) (oi := ⟨some 51, _, _, _, _, _⟩) (v := ?_) rfl (by kernel_rfl) (by kernel_rfl) (by kernel_rfl) (fun _ _ _ h => h) (Or.inl ⟨by rfl, ?_⟩) (by assumption) ?_
        rotate_left
        · (intro w hSw; (try dsimp only at hSw); go_simp; (try with_reducible rfl))
        try simp only [Act.put, List.setIfInBounds_toArray, List.set_cons_zero, List.set_cons_succ]
        refine wpAnyH_take (i := 4) (oi := ⟨some 53, _, _, _, _, _⟩) (v := ?_) rfl (by kernel_rfl) (by kernel_rfl) (by kernel_rfl) (fun _ _ _ h => h) (Or.inl ⟨by rfl, ?_⟩) (by assumption) ?_
        rotate_left
        · (intro w hSw; (try dsimp only at hSw); go_simp; (try with_reducible rfl))
        try simp only [Act.put, List.setIfInBounds_toArray, List.set_cons_zero, List.set_cons_succ]
        refine wpAnyH_take (i := 5) (oi := ⟨some 54, _, _, _, _, _⟩) (v := ?_) rfl (by kernel_rfl) (by kernel_rfl) (by kernel_rfl) (fun _ _ _ h => h) (Or.inl ⟨by rfl, ?_⟩) (by assumption) ?_
        rotate_left
        · (intro w hSw; (try dsimp only at hSw); go_simp; (try with_reducible rfl))
        try simp only [Act.put, List.setIfInBounds_toArray, List.set_cons_zero, List.set_cons_succ]
        refine wpAnyH_ready (rs := [0, 7]) (by kernel_rfl) (by simp) ?_
        refine AllReadyH.cons (o := ⟨some 49, _, _, _, _, _⟩) rfl (fun K hK => ?_) ?_
        · go_simp
          refine hK.out _ _ ?_ (fun hHeld => ?_)
          · exact ⟨((KK0.out.alloc KK0.out.size _).cell (p := ⟨w.heap.size, 0, none⟩) (by dsimp only; omega)).trans c1, ((KK0.out.alloc KK0.out.size _).cell (p := ⟨w.heap.size, 1, none⟩) (by dsimp only; omega)).trans c2, (KK0.out.alloc KK0.out.size _)⟩
          clear hK K
          try simp only [Act.put, List.setIfInBounds_toArray, List.set_cons_zero, List.set_cons_succ]
          have KK1 := Lib.hid (KK0.out.alloc KK0.out.size (Obj.cells #[.int .i64 2] 3))
          have EE2 := Lib.hid (own_made1 w5.drew 3 (w5.heap.size) (w5.heap.size) (.int .i64 2) (by first | (simp; done) | (simp; omega) | omega) KK0.out.size)
          refine wpAnyH_ready (rs := [3, 7]) (by kernel_rfl) (by simp) ?_
          refine AllReadyH.cons (o := ⟨some 52, _, _, _, _, _⟩) rfl (fun K hK => ?_) ?_
          · refine step_append_full (by rfl) _ _ (by rfl) w5.heap.size i0 _ 1 8 und_is und_is h0z h0a h0b h0c rfl (by omega) (.slice (some ⟨w5.heap.size, 0, none⟩) 1 1) 1 [.int .i64 2] (by rfl) EE2.out A n cv (vs.map iV) (by rfl) FLV (ints_news (HIN5.out.rv.step KK1.out)) (ints_one vs) (HIN5.out.nv) (by simp [maxLen]; omega) (by omega) (KK1.out.size) ?_
            intro aB cB wB apB
            have KK3 := Lib.hid (KK1.out.grown apB.grew KK1.out.size (fun k e => (EE2.out.lt k e).1))
            have zB : w5.heap.size + 1 ≤ wB.heap.size := by have h := apB.grew.size; (try simp at h); omega
            have EE4 := Lib.hid apB.row
            refine hK.out _ _ ?_ (fun hHeld => ?_)
            · exact ⟨(KK3.out.cell (p := ⟨w.heap.size, 0, none⟩) (by dsimp only; omega)).trans c1, (KK3.out.cell (p := ⟨w.heap.size, 1, none⟩) (by dsimp only; omega)).trans c2, KK3.out⟩
            clear hK K
            try simp only [Act.put, List.setIfInBounds_toArray, List.set_cons_zero, List.set_cons_succ]
            refine wpAnyH_take (i := 6) (oi := ⟨some 55, _, _, _, _, _⟩) (v := ?_) rfl (by kernel_rfl) (by kernel_rfl) (by kernel_rfl) (fun _ _ _ h => h) (Or.inl ⟨by rfl, ?_⟩) (by assumption) ?_
            rotate_left
            · (intro w hSw; (try dsimp only at hSw); go_simp; (try with_reducible rfl))
            try simp only [Act.put, List.setIfInBounds_toArray, List.set_cons_zero, List.set_cons_succ]
            refine wpAnyH_ready (rs := [7]) (by kernel_rfl) (by simp) ?_
            refine AllReadyH.cons (o := ⟨some 7, _, _, _, _, _⟩) rfl (fun K hK => ?_) ?_
            · go_simp
              refine hK.out _ _ ?_ (fun hHeld => ?_)
              · exact ⟨((KK3.out.alloc KK3.out.size _).cell (p := ⟨w.heap.size, 0, none⟩) (by dsimp only; omega)).trans c1, ((KK3.out.alloc KK3.out.size _).cell (p := ⟨w.heap.size, 1, none⟩) (by dsimp only; omega)).trans c2, (KK3.out.alloc KK3.out.size _)⟩
              clear hK K
              try simp only [Act.put, List.setIfInBounds_toArray, List.set_cons_zero, List.set_cons_succ]
              have KK5 := Lib.hid (KK3.out.alloc KK3.out.size (Obj.cells #[.slice none 0 0, .slice none 0 0] 25))
              have EE6 := Lib.hid (EE4.out.alloc (Obj.cells #[.slice none 0 0, .slice none 0 0] 25))
              have PP7 := Lib.hid (blk_new wB (Obj.cells #[.slice none 0 0, .slice none 0 0] 25) (wB.heap.size) (by first | (simp; done) | (simp; omega) | omega))
              refine wpAnyH_ready (rs := [8]) (by kernel_rfl) (by simp) ?_
              refine AllReadyH.cons (o := ⟨none, _, _, _, _, _⟩) rfl (fun K hK => ?_) ?_
              · have q0 := blk_cell PP7.out (j := 0) (u := .slice none 0 0) rfl
                have q1 := blk_cell PP7.out (j := 1) (u := .slice none 0 0) rfl
                obtain ⟨q0, f0⟩ := q0
                obtain ⟨q1, f1⟩ := q1
                go_simp
                refine hK.out _ _ ?_ (fun hHeld => ?_)
                · exact ⟨((KK3.out.alloc KK3.out.size _).cell (p := ⟨w.heap.size, 0, none⟩) (by dsimp only; omega)).trans c1, ((KK3.out.alloc KK3.out.size _).cell (p := ⟨w.heap.size, 1, none⟩) (by dsimp only; omega)).trans c2, (KK3.out.alloc KK3.out.size _)⟩
                clear hK K
                try simp only [Act.put, List.setIfInBounds_toArray, List.set_cons_zero, List.set_cons_succ]
                refine wpAnyH_done (by kernel_rfl) ?_ _
                go_wp2_with fail
                go_meet
                have hrow := EE4.out
                rw [← FL3.out] at hrow
                obtain ⟨_, _, hvD, _, hcD⟩ := vals_of_row hrow
                simp only [Value.slice.injEq] at hvD
                obtain ⟨rfl, _, rfl⟩ := hvD
                exact box_new (1 + n) (m) HN2.out HM.out hcD ((HIN5.out.rp.step KK3.out).more KK3.out.size) ((by first | (simp; done) | (simp; omega) | omega)) (own_ne (fun e => by first | (have h := (apB.row.lt _ e).2; omega) | (rcases apB.own with k2 | k2 <;> (rw [k2] at e; simp [Value.ownBlock] at e; try omega)))) (HIN5.out.rp.lt (by omega)) KK3.out.size KK3.out
              exact AllReadyH.nil
            exact AllReadyH.nil
          refine AllReadyH.cons (o := ⟨some 7, _, _, _, _, _⟩) rfl (fun K hK => ?_) ?_
          · go_simp
            refine hK.out _ _ ?_ (fun hHeld => ?_)
            · exact ⟨((KK1.out.alloc KK1.out.size _).cell (p := ⟨w.heap.size, 0, none⟩) (by dsimp only; omega)).trans c1, ((KK1.out.alloc KK1.out.size _).cell (p := ⟨w.heap.size, 1, none⟩) (by dsimp only; omega)).trans c2, (KK1.out.alloc KK1.out.size _)⟩
            clear hK K
            try simp only [Act.put, List.setIfInBounds_toArray, List.set_cons_zero, List.set_cons_succ]
            have KK8 := Lib.hid (KK1.out.alloc KK1.out.size (Obj.cells #[.slice none 0 0, .slice none 0 0] 25))
            have EE9 := Lib.hid (EE2.out.alloc (Obj.cells #[.slice none 0 0, .slice none 0 0] 25))
            have PP10 := Lib.hid (blk_new (w5.drew.alloc (Obj.cells #[.int .i64 2] 3)) (Obj.cells #[.slice none 0 0, .slice none 0 0] 25) (w5.heap.size + 1) (by first | (simp; done) | (simp; omega) | omega))
            refine wpAnyH_ready (rs := [3]) (by kernel_rfl) (by simp) ?_
            refine AllReadyH.cons (o := ⟨some 52, _, _, _, _, _⟩) rfl (fun K hK => ?_) ?_
            · refine step_append_full (by rfl) _ _ (by rfl) w5.heap.size i0 _ 1 8 und_is und_is h0z h0a h0b h0c rfl (by omega) (.slice (some ⟨w5.heap.size, 0, none⟩) 1 1) 1 [.int .i64 2] (by rfl) EE9.out A n cv (vs.map iV) (by rfl) FLV (ints_news (HIN5.out.rv.step KK8.out)) (ints_one vs) (HIN5.out.nv) (by simp [maxLen]; omega) (by omega) (KK8.out.size) ?_
              intro aB cB wB apB
              have KK11 := Lib.hid (KK8.out.grown apB.grew KK8.out.size (fun k e => (EE9.out.lt k e).1))
              have zB : w5.heap.size + 1 + 1 ≤ wB.heap.size := by have h := apB.grew.size; (try simp at h); omega
              have PP12 := Lib.hid ((apB.grew.block (w5.heap.size + 1) (by first | (simp; done) | (simp; omega) | omega) (by first | (simp [Value.ownBlock]; done) | (simp [Value.ownBlock]; omega))).trans PP10.out)
              have EE13 := Lib.hid apB.row
              refine hK.out _ _ ?_ (fun hHeld => ?_)
              · exact ⟨(KK11.out.cell (p := ⟨w.heap.size, 0, none⟩) (by dsimp only; omega)).trans c1, (KK11.out.cell (p := ⟨w.heap.size, 1, none⟩) (by dsimp only; omega)).trans c2, KK11.out⟩
              clear hK K
              try simp only [Act.put, List.setIfInBounds_toArray, List.set_cons_zero, List.set_cons_succ]
              refine wpAnyH_take (i := 6) (oi := ⟨some 55, _, _, _, _, _⟩) (v := ?_) rfl (by kernel_rfl) (by kernel_rfl) (by kernel_rfl) (fun _ _ _ h => h) (Or.inl ⟨by rfl, ?_⟩) (by assumption) ?_
              rotate_left
              · (intro w hSw; (try dsimp only at hSw); go_simp; (try with_reducible rfl))
              try simp only [Act.put, List.setIfInBounds_toArray, List.set_cons_zero, List.set_cons_succ]
              refine wpAnyH_ready (rs := [8]) (by kernel_rfl) (by simp) ?_
              refine AllReadyH.cons (o := ⟨none, _, _, _, _, _⟩) rfl (fun K hK => ?_) ?_
              · have q0 := blk_cell PP12.out (j := 0) (u := .slice none 0 0) rfl
                have q1 := blk_cell PP12.out (j := 1) (u := .slice none 0 0) rfl
                obtain ⟨q0, f0⟩ := q0
                obtain ⟨q1, f1⟩ := q1
                go_simp
                refine hK.out _ _ ?_ (fun hHeld => ?_)
                · exact ⟨(((KK11.out.setCell (p := ⟨w5.heap.size + 1, 0, none⟩) (by dsimp only; omega) _).setCell (p := ⟨w5.heap.size + 1, 1, none⟩) (by dsimp only; omega) _).cell (p := ⟨w.heap.size, 0, none⟩) (by dsimp only; omega)).trans c1, (((KK11.out.setCell (p := ⟨w5.heap.size + 1, 0, none⟩) (by dsimp only; omega) _).setCell (p := ⟨w5.heap.size + 1, 1, none⟩) (by dsimp only; omega) _).cell (p := ⟨w.heap.size, 1, none⟩) (by dsimp only; omega)).trans c2, ((KK11.out.setCell (p := ⟨w5.heap.size + 1, 0, none⟩) (by dsimp only; omega) _).setCell (p := ⟨w5.heap.size + 1, 1, none⟩) (by dsimp only; omega) _)⟩
                clear hK K
                try simp only [Act.put, List.setIfInBounds_toArray, List.set_cons_zero, List.set_cons_succ]
                refine wpAnyH_done (by kernel_rfl) ?_ _
                go_wp2_with fail
                go_meet
                have hrow := EE13.out
                rw [← FL3.out] at hrow
                obtain ⟨_, _, hvD, _, hcD⟩ := vals_of_row hrow
                simp only [Value.slice.injEq] at hvD
                obtain ⟨rfl, _, rfl⟩ := hvD
                exact box_out (1 + n) (m) HN2.out HM.out PP12.out hcD ((HIN5.out.rp.step KK11.out).more KK11.out.size) (own_ne (fun e => by first | (have h := (apB.row.lt _ e).2; omega) | (rcases apB.own with k2 | k2 <;> (rw [k2] at e; simp [Value.ownBlock] at e; try omega)))) (HIN5.out.rp.lt (by omega)) (by omega) KK11.out
              exact AllReadyH.nil
            exact AllReadyH.nil
          exact AllReadyH.nil
        refine AllReadyH.cons (o := ⟨some 7, _, _, _, _, _⟩) rfl (fun K hK => ?_) ?_
        · go_simp
          refine hK.out _ _ ?_ (fun hHeld => ?_)
          · exact ⟨((KK0.out.alloc KK0.out.size _).cell (p := ⟨w.heap.size, 0, none⟩) (by dsimp only; omega)).trans c1, ((KK0.out.alloc KK0.out.size _).cell (p := ⟨w.heap.size, 1, none⟩) (by dsimp only; omega)).trans c2, (KK0.out.alloc KK0.out.size _)⟩
          clear hK K
          try simp only [Act.put, List.setIfInBounds_toArray, List.set_cons_zero, List.set_cons_succ]
          have KK14 := Lib.hid (KK0.out.alloc KK0.out.size (Obj.cells #[.slice none 0 0, .slice none 0 0] 25))
          have PP15 := Lib.hid (blk_new w5.drew (Obj.cells #[.slice none 0 0, .slice none 0 0] 25) (w5.heap.size) (by first | (simp; done) | (simp; omega) | omega))
          refine wpAnyH_ready (rs := [0]) (by kernel_rfl) (by simp) ?_
          refine AllReadyH.cons (o := ⟨some 49, _, _, _, _, _⟩) rfl (fun K hK => ?_) ?_
          · go_simp
            refine hK.out _ _ ?_ (fun hHeld => ?_)
            · exact ⟨((KK14.out.alloc KK14.out.size _).cell (p := ⟨w.heap.size, 0, none⟩) (by dsimp only; omega)).trans c1, ((KK14.out.alloc KK14.out.size _).cell (p := ⟨w.heap.size, 1, none⟩) (by dsimp only; omega)).trans c2, (KK14.out.alloc KK14.out.size _)⟩
            clear hK K
            try simp only [Act.put, List.setIfInBounds_toArray, List.set_cons_zero, List.set_cons_succ]
            have KK16 := Lib.hid (KK14.out.alloc KK14.out.size (Obj.cells #[.int .i64 2] 3))
            have PP17 := Lib.hid (blk_alloc PP15.out (Obj.cells #[.int .i64 2] 3))
            have EE18 := Lib.hid (own_made1 (w5.drew.alloc (Obj.cells #[.slice none 0 0, .slice none 0 0] 25)) 3 (w5.heap.size) (w5.heap.size + 1) (.int .i64 2) (by first | (simp; done) | (simp; omega) | omega) KK14.out.size)
            refine wpAnyH_ready (rs := [3]) (by kernel_rfl) (by simp) ?_
            refine AllReadyH.cons (o := ⟨some 52, _, _, _, _, _⟩) rfl (fun K hK => ?_) ?_
            · refine step_append_full (by rfl) _ _ (by rfl) w5.heap.size i0 _ 1 8 und_is und_is h0z h0a h0b h0c rfl (by omega) (.slice (some ⟨w5.heap.size + 1, 0, none⟩) 1 1) 1 [.int .i64 2] (by rfl) EE18.out A n cv (vs.map iV) (by rfl) FLV (ints_news (HIN5.out.rv.step KK16.out)) (ints_one vs) (HIN5.out.nv) (by simp [maxLen]; omega) (by omega) (KK16.out.size) ?_
              intro aB cB wB apB
              have KK19 := Lib.hid (KK16.out.grown apB.grew KK16.out.size (fun k e => (EE18.out.lt k e).1))
              have zB : w5.heap.size + 1 + 1 ≤ wB.heap.size := by have h := apB.grew.size; (try simp at h); omega
              have PP20 := Lib.hid ((apB.grew.block (w5.heap.size) (by first | (simp; done) | (simp; omega) | omega) (by first | (simp [Value.ownBlock]; done) | (simp [Value.ownBlock]; omega))).trans PP17.out)
              have EE21 := Lib.hid apB.row
              refine hK.out _ _ ?_ (fun hHeld => ?_)
              · exact ⟨(KK19.out.cell (p := ⟨w.heap.size, 0, none⟩) (by dsimp only; omega)).trans c1, (KK19.out.cell (p := ⟨w.heap.size, 1, none⟩) (by dsimp only; omega)).trans c2, KK19.out⟩
              clear hK K
              try simp only [Act.put, List.setIfInBounds_toArray, List.set_cons_zero, List.set_cons_succ]
              refine wpAnyH_take (i := 6) (oi := ⟨some 55, _, _, _, _, _⟩) (v := ?_) rfl (by kernel_rfl) (by kernel_rfl) (by kernel_rfl) (fun _ _ _ h => h) (Or.inl ⟨by rfl, ?_⟩) (by assumption) ?_
              rotate_left
              · (intro w hSw; (try dsimp only at hSw); go_simp; (try with_reducible rfl))
              try simp only [Act.put, List.setIfInBounds_toArray, List.set_cons_zero, List.set_cons_succ]
              refine wpAnyH_ready (rs := [8]) (by kernel_rfl) (by simp) ?_
              refine AllReadyH.cons (o := ⟨none, _, _, _, _, _⟩) rfl (fun K hK => ?_) ?_
              · have q0 := blk_cell PP20.out (j := 0) (u := .slice none 0 0) rfl
                have q1 := blk_cell PP20.out (j := 1) (u := .slice none 0 0) rfl
                obtain ⟨q0, f0⟩ := q0
                obtain ⟨q1, f1⟩ := q1
                go_simp
                refine hK.out _ _ ?_ (fun hHeld => ?_)
                · exact ⟨(((KK19.out.setCell (p := ⟨w5.heap.size, 0, none⟩) (by dsimp only; omega) _).setCell (p := ⟨w5.heap.size, 1, none⟩) (by dsimp only; omega) _).cell (p := ⟨w.heap.size, 0, none⟩) (by dsimp only; omega)).trans c1, (((KK19.out.setCell (p := ⟨w5.heap.size, 0, none⟩) (by dsimp only; omega) _).setCell (p := ⟨w5.heap.size, 1, none⟩) (by dsimp only; omega) _).cell (p := ⟨w.heap.size, 1, none⟩) (by dsimp only; omega)).trans c2, ((KK19.out.setCell (p := ⟨w5.heap.size, 0, none⟩) (by dsimp only; omega) _).setCell (p := ⟨w5.heap.size, 1, none⟩) (by dsimp only; omega) _)⟩
                clear hK K
                try simp only [Act.put, List.setIfInBounds_toArray, List.set_cons_zero, List.set_cons_succ]
                refine wpAnyH_done (by kernel_rfl) ?_ _
                go_wp2_with fail
                go_meet
                have hrow := EE21.out
                rw [← FL3.out] at hrow
                obtain ⟨_, _, hvD, _, hcD⟩ := vals_of_row hrow
                simp only [Value.slice.injEq] at hvD
                obtain ⟨rfl, _, rfl⟩ := hvD
                exact box_out (1 + n) (m) HN2.out HM.out PP20.out hcD ((HIN5.out.rp.step KK19.out).more KK19.out.size) (own_ne (fun e => by first | (have h := (apB.row.lt _ e).2; omega) | (rcases apB.own with k2 | k2 <;> (rw [k2] at e; simp [Value.ownBlock] at e; try omega)))) (HIN5.out.rp.lt (by omega)) (by omega) KK19.out
              exact AllReadyH.nil
            exact AllReadyH.nil
          exact AllReadyH.nil
        exact AllReadyH.nil
      case rest =>
        obtain ⟨w6, hw6⟩ : ∃ w6 : World, w6 = wc := ⟨_, rfl⟩
        subst hw6
        obtain ⟨g7, A7, k7, M7, d7, rfl, ⟨c7, c8⟩, hv7, hc7, ⟨hg7, hl7⟩, h6⟩ := hcut
        rw [HM.out] at c8
        rw [HN2.out] at c7
        replace c1 := (h6.cell (by (try dsimp only); omega)).trans c1
        replace c2 := (h6.cell (by (try dsimp only); omega)).trans c2
        replace c3 := (h6.cell (by (try dsimp only); omega)).trans c3
        replace c4 := (h6.cell (by (try dsimp only); omega)).trans c4
        replace c5 := (h6.cell (by (try dsimp only); omega)).trans c5
        replace c6 := (h6.cell (by (try dsimp only); omega)).trans c6
        replace hb := hb.trans (h6.mono hb.size)
        have z6 := h6.size
        have HIN6 := Lib.hid (HIN.out.calls hb)
        have HC56 := Lib.hid ((HC5.out.step h6).more h6.size)
        have HV56 := Lib.hid (HV5.out.calls h6)
        have HC66 := Lib.hid ((HC6.out.step h6).more h6.size)
        have HV66 := Lib.hid (HV6.out.calls h6)
        have HC7 := Lib.hid hc7
        have HV7 := Lib.hid hv7
        clear hc7 hv7 h6 HC5 HV5 HC6 HV6
        rcases hps : ps with _ | ⟨p0, t0⟩
        · have hm0 : m = 0 := by rw [← HM.out, hps]; rfl
          subst hm0
          have HV5F := HV56; have HC5F := HC56; have HV6E := HV66; have HC6E := HC66; have HV7E := HV7; have HC7E := HC7
          clear HV56 HC56 HV66 HC66
          have hps2 := Lib.hid hps
          clear hps
          by_cases hnone : v < 1 ∨ 5 < v
          · obtain rfl : kb = 1 := HBAD.out.2 hnone
            clear HBAD
            rcases hnone with hv1 | hv1
            · have t1 : decide (v < 1) = true := by simp; omega
              go_wp2_with fail
              refine (CM.out _ _ _ _ _ HV5F.out HC5F.out (HTB.out _ hb)).mono ?_
              rintro e x1 ⟨rfl, k1⟩
              have e5 := (k1.cell (p := ⟨g6, 0, none⟩) (by (try dsimp only); omega)).trans c5
              have e6 := (k1.cell (p := ⟨g6, 1, none⟩) (by (try dsimp only); omega)).trans c6
              have e7 := (k1.cell (p := ⟨g7, 0, none⟩) (by (try dsimp only); omega)).trans c7
              have e8 := (k1.cell (p := ⟨g7, 1, none⟩) (by (try dsimp only); omega)).trans c8
              have HV6F := Lib.hid (HV6E.out.calls k1)
              have HC6F := Lib.hid ((HC6E.out.step k1).more k1.size)
              have HV7F := Lib.hid (HV7E.out.calls k1)
              have HC7F := Lib.hid ((HC7E.out.step k1).more k1.size)
              have zx1 := k1.size
              have hb1 := hb.trans (k1.mono hb.size)
              clear k1
              go_wp2_with fail
              refine (CB.out _ _ _ _ _ HV6F.out HC6F.out (HTB.out _ hb1)).mono ?_
              rintro e x2 ⟨rfl, k2⟩
              have o7 := (k2.cell (p := ⟨g7, 0, none⟩) (by (try dsimp only); omega)).trans e7
              have o8 := (k2.cell (p := ⟨g7, 1, none⟩) (by (try dsimp only); omega)).trans e8
              have HV7G := Lib.hid (HV7F.out.calls k2)
              have HC7G := Lib.hid ((HC7F.out.step k2).more k2.size)
              have hb2 := hb1.trans (k2.mono hb1.size)
              clear k2
              go_wp2_with fail
              refine (CL.out _ _ _ _ _ HV7G.out HC7G.out (HTB.out _ hb2)).mono ?_
              rintro e x3 ⟨rfl, k3⟩
              have hb3 := hb2.trans (k3.mono hb2.size)
              go_wp2
              go_ret
              exact ⟨rfl, hb3⟩
            · have t1 : decide (v < 1) = false := by simp; omega
              have t2 : decide (v > 5) = true := by simp; omega
              have t3 : decide (5 < v) = true := by simp; omega
              go_wp2_with fail
              refine (CM.out _ _ _ _ _ HV5F.out HC5F.out (HTB.out _ hb)).mono ?_
              rintro e x1 ⟨rfl, k1⟩
              have e5 := (k1.cell (p := ⟨g6, 0, none⟩) (by (try dsimp only); omega)).trans c5
              have e6 := (k1.cell (p := ⟨g6, 1, none⟩) (by (try dsimp only); omega)).trans c6
              have e7 := (k1.cell (p := ⟨g7, 0, none⟩) (by (try dsimp only); omega)).trans c7
              have e8 := (k1.cell (p := ⟨g7, 1, none⟩) (by (try dsimp only); omega)).trans c8
              have HV6F := Lib.hid (HV6E.out.calls k1)
              have HC6F := Lib.hid ((HC6E.out.step k1).more k1.size)
              have HV7F := Lib.hid (HV7E.out.calls k1)
              have HC7F := Lib.hid ((HC7E.out.step k1).more k1.size)
              have zx1 := k1.size
              have hb1 := hb.trans (k1.mono hb.size)
              clear k1
              go_wp2_with fail
              refine (CB.out _ _ _ _ _ HV6F.out HC6F.out (HTB.out _ hb1)).mono ?_
              rintro e x2 ⟨rfl, k2⟩
              have o7 := (k2.cell (p := ⟨g7, 0, none⟩) (by (try dsimp only); omega)).trans e7
              have o8 := (k2.cell (p := ⟨g7, 1, none⟩) (by (try dsimp only); omega)).trans e8
              have HV7G := Lib.hid (HV7F.out.calls k2)
              have HC7G := Lib.hid ((HC7F.out.step k2).more k2.size)
              have hb2 := hb1.trans (k2.mono hb1.size)
              clear k2
              go_wp2_with fail
              refine (CL.out _ _ _ _ _ HV7G.out HC7G.out (HTB.out _ hb2)).mono ?_
              rintro e x3 ⟨rfl, k3⟩
              have hb3 := hb2.trans (k3.mono hb2.size)
              go_wp2
              go_ret
              exact ⟨rfl, hb3⟩
          · have hk1 : kb ≠ 1 := fun e => hnone (HBAD.out.1 e)
            have u1 : (kb == 1) = false := by simpa using hk1
            clear HBAD hk1
            have t1 : decide (v < 1) = false := by simp; omega
            have t2 : decide (v > 5) = false := by simp; omega
            have t3 : decide (5 < v) = false := by simp; omega
            go_wp2_with fail
            refine (CM.out _ _ _ _ _ HV5F.out HC5F.out (HTB.out _ hb)).mono ?_
            rintro e x1 ⟨rfl, k1⟩
            have e5 := (k1.cell (p := ⟨g6, 0, none⟩) (by (try dsimp only); omega)).trans c5
            have e6 := (k1.cell (p := ⟨g6, 1, none⟩) (by (try dsimp only); omega)).trans c6
            have e7 := (k1.cell (p := ⟨g7, 0, none⟩) (by (try dsimp only); omega)).trans c7
            have e8 := (k1.cell (p := ⟨g7, 1, none⟩) (by (try dsimp only); omega)).trans c8
            have HV6F := Lib.hid (HV6E.out.calls k1)
            have HC6F := Lib.hid ((HC6E.out.step k1).more k1.size)
            have HV7F := Lib.hid (HV7E.out.calls k1)
            have HC7F := Lib.hid ((HC7E.out.step k1).more k1.size)
            have zx1 := k1.size
            have hb1 := hb.trans (k1.mono hb.size)
            clear k1
            go_wp2_with fail
            refine (CB.out _ _ _ _ _ HV6F.out HC6F.out (HTB.out _ hb1)).mono ?_
            rintro e x2 ⟨rfl, k2⟩
            have o7 := (k2.cell (p := ⟨g7, 0, none⟩) (by (try dsimp only); omega)).trans e7
            have o8 := (k2.cell (p := ⟨g7, 1, none⟩) (by (try dsimp only); omega)).trans e8
            have HV7G := Lib.hid (HV7F.out.calls k2)
            have HC7G := Lib.hid ((HC7F.out.step k2).more k2.size)
            have hb2 := hb1.trans (k2.mono hb1.size)
            clear k2
            go_wp2_with fail
            refine (CL.out _ _ _ _ _ HV7G.out HC7G.out (HTB.out _ hb2)).mono ?_
            rintro e x3 ⟨rfl, k3⟩
            have hb3 := hb2.trans (k3.mono hb2.size)
            go_wp2
            go_ret
            exact ⟨rfl, hb3⟩
        · have hm1 : 1 ≤ m := by rw [← HM.out, hps]; simp
          have hmc : m ≤ cp := by rw [← HM.out]; exact HIN6.out.lp
          have hmp := HIN6.out.mp
          obtain ⟨bd, rfl, hBd, _⟩ := HIN6.out.rp (by rw [hps]; simp)
          have HT := Lib.hid (show t0.length = m - 1 by rw [← HM.out, hps]; simp)
          have HPS := Lib.hid hps
          have hpos : decide ((m : Int) > 0) = true := by simp; omega
          have hpos2 : decide (0 < (m : Int)) = true := by simp; omega
          have hpos3 : (0 : Int) < (m : Int) := by omega
          have hpos4 : 0 < m := by omega
          have s1 : (1 : Int) ≤ (m : Int) := by omega
          have s2 : (1 : Int) ≤ (cp : Int) := by omega
          obtain ⟨bd2, hbd2⟩ : ∃ x, (if 1 = cp then bd else bd.add 2) = x := ⟨_, rfl⟩
          have HCT := Lib.hid (show Cor w6 w6.heap.size (some bd2) t0 from fun h0 => by
            have hcp1 : ¬ 1 = cp := by have := HT.out; omega
            rw [if_neg hcp1] at hbd2
            subst hbd2
            refine ⟨_, rfl, by rw [block_add]; exact hBd, fun i p hp => ?_⟩
            obtain ⟨ad, e, _, g1, g2⟩ := HIN6.out.rp.at_ (i := i + 1) (p := p) (by rw [HPS.out]; exact hp)
            cases e
            rw [add_add, show 2 + i * 2 = (i + 1) * 2 by omega]
            exact ⟨g1, g2⟩)
          clear hps
          go_upto_region 7 with fail
          go_cut [8] (fun s8 z => BoxOut w6 vs t0 s8 z)
          case first =>
            by_cases hcp1 : 1 = cp
            · rw [if_pos hcp1] at hbd2
              subst hbd2
              subst hcp1
              obtain rfl : m = 1 := by omega
              have KK0 := Lib.hid (show Below w6.heap.size w6 w6.drew from (Below.refl _ _).drew)
              refine wp_region_held_drew (S := fun z => z.cell? ⟨w.heap.size, 0, none⟩ = some (.slice A n cv) ∧ z.cell? ⟨w.heap.size, 1, none⟩ = some (.slice (some bd) 1 1) ∧ Below w6.heap.size w6 z) (by kernel_rfl) ⟨(KK0.out.cell (p := ⟨w.heap.size, 0, none⟩) (by dsimp only; omega)).trans c1, (KK0.out.cell (p := ⟨w.heap.size, 1, none⟩) (by dsimp only; omega)).trans c2, KK0.out⟩ (fun hHeld => ?_)
              refine wpAnyH_take (i := 0) (oi := ⟨some 60, _, _, _, _, _⟩) (v := ?_) rfl (by kernel_rfl) (by kernel_rfl) (by kernel_rfl) (fun _ _ _ h => h) (Or.inl ⟨by rfl, ?_⟩) (by assumption) ?_
              rotate_left
              · (intro w hSw; (try dsimp only at hSw); go_simp; (try with_reducible rfl))
              try simp only [Act.put, List.setIfInBounds_toArray, List.set_cons_zero, List.set_cons_succ]
              refine wpAnyH_take (i := 1) (oi := ⟨some 61, _, _, _, _, _⟩) (v := ?_) rfl (by kernel_rfl) (by kernel_rfl) (by kernel_rfl) (fun _ _ _ h => h) (Or.inl ⟨by rfl, ?_⟩) (by assumption) ?_
              rotate_left
              · (intro w hSw; (try dsimp only at hSw); go_simp; (try with_reducible rfl))
              try simp only [Act.put, List.setIfInBounds_toArray, List.set_cons_zero, List.set_cons_succ]
              refine wpAnyH_take (i := 2) (oi := ⟨some 62, _, _, _, _, _⟩) (v := ?_) rfl (by kernel_rfl) (by kernel_rfl) (by kernel_rfl) (fun _ _ _ h => h) (Or.inl ⟨by rfl, ?_⟩) (by assumption) ?_
              rotate_left
              · (intro w hSw; (try dsimp only at hSw); go_simp; (try with_reducible rfl))
              try simp only [Act.put, List.setIfInBounds_toArray, List.set_cons_zero, List.set_cons_succ]
              refine wpAnyH_take (i := 3) (oi := ⟨some 63, _, _, _, _, _⟩) (v := ?_) rfl (by kernel_rfl) (by kernel_rfl) (by kernel_rfl) (fun _ _ _ h => h) (Or.inl ⟨by rfl, ?_⟩) (by assumption) ?_
              rotate_left
              · (intro w hSw; (try dsimp only at hSw); go_simp; (try with_reducible rfl))
              try simp only [Act.put, List.setIfInBounds_toArray, List.set_cons_zero, List.set_cons_succ]
              refine wpAnyH_take (i := 4) (oi := ⟨some 64, _, _, _, _, _⟩) (v := ?_) rfl (by kernel_rfl) (by kernel_rfl) (by kernel_rfl) (fun _ _ _ h => h) (Or.inl ⟨by rfl, ?_⟩) (by assumption) ?_
              rotate_left
              · (intro w hSw; (try dsimp only at hSw); go_simp; (try with_reducible rfl))
              try simp only [Act.put, List.setIfInBounds_toArray, List.set_cons_zero, List.set_cons_succ]
              refine wpAnyH_take (i := 5) (oi := ⟨some 65, _, _, _, _, _⟩) (v := ?_) rfl (by kernel_rfl) (by kernel_rfl) (by kernel_rfl) (fun _ _ _ h => h) (Or.inl ⟨by rfl, ?_⟩) (by assumption) ?_
              rotate_left
              · (intro w hSw; (try dsimp only at hSw); go_simp; (try with_reducible rfl))
              try simp only [Act.put, List.setIfInBounds_toArray, List.set_cons_zero, List.set_cons_succ]
              refine wpAnyH_ready (rs := [6]) (by kernel_rfl) (by simp) ?_
              refine AllReadyH.cons (o := ⟨some 8, _, _, _, _, _⟩) rfl (fun K hK => ?_) ?_
              · go_simp
                refine hK.out _ _ ?_ (fun hHeld => ?_)
                · exact ⟨((KK0.out.alloc KK0.out.size _).cell (p := ⟨w.heap.size, 0, none⟩) (by dsimp only; omega)).trans c1, ((KK0.out.alloc KK0.out.size _).cell (p := ⟨w.heap.size, 1, none⟩) (by dsimp only; omega)).trans c2, (KK0.out.alloc KK0.out.size _)⟩
                clear hK K
                try simp only [Act.put, List.setIfInBounds_toArray, List.set_cons_zero, List.set_cons_succ]
                have KK1 := Lib.hid (KK0.out.alloc KK0.out.size (Obj.cells #[.slice none 0 0, .slice none 0 0] 25))
                have PP2 := Lib.hid (blk_new w6.drew (Obj.cells #[.slice none 0 0, .slice none 0 0] 25) (w6.heap.size) (by first | (simp; done) | (simp; omega) | omega))
                refine wpAnyH_ready (rs := [7]) (by kernel_rfl) (by simp) ?_
                refine AllReadyH.cons (o := ⟨none, _, _, _, _, _⟩) rfl (fun K hK => ?_) ?_
                · have q0 := blk_cell PP2.out (j := 0) (u := .slice none 0 0) rfl
                  have q1 := blk_cell PP2.out (j := 1) (u := .slice none 0 0) rfl
                  obtain ⟨q0, f0⟩ := q0
                  obtain ⟨q1, f1⟩ := q1
                  go_simp
                  refine hK.out _ _ ?_ (fun hHeld => ?_)
                  · exact ⟨((KK0.out.alloc KK0.out.size _).cell (p := ⟨w.heap.size, 0, none⟩) (by dsimp only; omega)).trans c1, ((KK0.out.alloc KK0.out.size _).cell (p := ⟨w.heap.size, 1, none⟩) (by dsimp only; omega)).trans c2, (KK0.out.alloc KK0.out.size _)⟩
                  clear hK K
                  try simp only [Act.put, List.setIfInBounds_toArray, List.set_cons_zero, List.set_cons_succ]
                  refine wpAnyH_done (by kernel_rfl) ?_ _
                  go_wp2_with fail
                  go_meet
                  show BoxOut w6 vs t0 (.pointer (some ⟨w6.heap.size, 0, none⟩)) (w6.drew.alloc (Obj.cells #[.slice _ _ _, .slice _ _ _] _))
                  exact box_new (n) (0) HN.out HT.out ((HIN6.out.rv.step KK0.out).more KK0.out.size) ((HCT.out.step KK0.out).more KK0.out.size) ((by first | (simp; done) | (simp; omega) | omega)) (HIN6.out.rv.lt (by first | exact Nat.le_refl _ | omega)) (HCT.out.lt (by first | exact Nat.le_refl _ | omega)) KK0.out.size KK0.out
                exact AllReadyH.nil
              exact AllReadyH.nil
            · rw [if_neg hcp1] at hbd2
              subst hbd2
              have y1 : ¬ (1 : Int) = (cp : Int) := by omega
              have y2 : ((1 : Int) == (cp : Int)) = false := by simp; omega
              have KK0 := Lib.hid (show Below w6.heap.size w6 w6.drew from (Below.refl _ _).drew)
              refine wp_region_held_drew (S := fun z => z.cell? ⟨w.heap.size, 0, none⟩ = some (.slice A n cv) ∧ z.cell? ⟨w.heap.size, 1, none⟩ = some (.slice (some bd) m cp) ∧ Below w6.heap.size w6 z) (by kernel_rfl) ⟨(KK0.out.cell (p := ⟨w.heap.size, 0, none⟩) (by dsimp only; omega)).trans c1, (KK0.out.cell (p := ⟨w.heap.size, 1, none⟩) (by dsimp only; omega)).trans c2, KK0.out⟩ (fun hHeld => ?_)
              refine wpAnyH_take (i := 0) (oi := ⟨some 60, _, _, _, _, _⟩) (v := ?_) rfl (by kernel_rfl) (by kernel_rfl) (by kernel_rfl) (fun _ _ _ h => h) (Or.inl ⟨by rfl, ?_⟩) (by assumption) ?_
              rotate_left
              · (intro w hSw; (try dsimp only at hSw); go_simp; (try with_reducible rfl))
              try simp only [Act.put, List.setIfInBounds_toArray, List.set_cons_zero, List.set_cons_succ]
              refine wpAnyH_take (i := 1) (oi := ⟨some 61, _, _, _, _, _⟩) (v := ?_) rfl (by kernel_rfl) (by kernel_rfl) (by kernel_rfl) (fun _ _ _ h => h) (Or.inl ⟨by rfl, ?_⟩) (by assumption) ?_
              rotate_left
              · (intro w hSw; (try dsimp only at hSw); go_simp; (try with_reducible rfl))
              try simp only [Act.put, List.setIfInBounds_toArray, List.set_cons_zero, List.set_cons_succ]
              refine wpAnyH_take (i := 2) (oi := ⟨some 62, _, _, _, _, _⟩) (v := ?_) rfl (by kernel_rfl) (by kernel_rfl) (by kernel_rfl) (fun _ _ _ h => h) (Or.inl ⟨by rfl, ?_⟩) (by assumption) ?_
              rotate_left
              · (intro w hSw; (try dsimp only at hSw); go_simp; (try with_reducible rfl))
              try simp only [Act.put, List.setIfInBounds_toArray, List.set_cons_zero, List.set_cons_succ]
              refine wpAnyH_take (i := 3) (oi := ⟨some 63, _, _, _, _, _⟩) (v := ?_) rfl (by kernel_rfl) (by kernel_rfl) (by kernel_rfl) (fun _ _ _ h => h) (Or.inl ⟨by rfl, ?_⟩) (by assumption) ?_
              rotate_left
              · (intro w hSw; (try dsimp only at hSw); go_simp; (try with_reducible rfl))
              try simp only [Act.put, List.setIfInBounds_toArray, List.set_cons_zero, List.set_cons_succ]
              refine wpAnyH_take (i := 4) (oi := ⟨some 64, _, _, _, _, _⟩) (v := ?_) rfl (by kernel_rfl) (by kernel_rfl) (by kernel_rfl) (fun _ _ _ h => h) (Or.inl ⟨by rfl, ?_⟩) (by assumption) ?_
              rotate_left
              · (intro w hSw; (try dsimp only at hSw); go_simp; (try with_reducible rfl))
              try simp only [Act.put, List.setIfInBounds_toArray, List.set_cons_zero, List.set_cons_succ]
              refine wpAnyH_take (i := 5) (oi := ⟨some 65, _, _, _, _, _⟩) (v := ?_) rfl (by kernel_rfl) (by kernel_rfl) (by kernel_rfl) (fun _ _ _ h => h) (Or.inl ⟨by rfl, ?_⟩) (by assumption) ?_
              rotate_left
              · (intro w hSw; (try dsimp only at hSw); go_simp; (try with_reducible rfl))
              try simp only [Act.put, List.setIfInBounds_toArray, List.set_cons_zero, List.set_cons_succ]
              refine wpAnyH_ready (rs := [6]) (by kernel_rfl) (by simp) ?_
              refine AllReadyH.cons (o := ⟨some 8, _, _, _, _, _⟩) rfl (fun K hK => ?_) ?_
              · go_simp
                refine hK.out _ _ ?_ (fun hHeld => ?_)
                · exact ⟨((KK0.out.alloc KK0.out.size _).cell (p := ⟨w.heap.size, 0, none⟩) (by dsimp only; omega)).trans c1, ((KK0.out.alloc KK0.out.size _).cell (p := ⟨w.heap.size, 1, none⟩) (by dsimp only; omega)).trans c2, (KK0.out.alloc KK0.out.size _)⟩
                clear hK K
                try simp only [Act.put, List.setIfInBounds_toArray, List.set_cons_zero, List.set_cons_succ]
                have KK1 := Lib.hid (KK0.out.alloc KK0.out.size (Obj.cells #[.slice none 0 0, .slice none 0 0] 25))
                have PP2 := Lib.hid (blk_new w6.drew (Obj.cells #[.slice none 0 0, .slice none 0 0] 25) (w6.heap.size) (by first | (simp; done) | (simp; omega) | omega))
                refine wpAnyH_ready (rs := [7]) (by kernel_rfl) (by simp) ?_
                refine AllReadyH.cons (o := ⟨none, _, _, _, _, _⟩) rfl (fun K hK => ?_) ?_
                · have q0 := blk_cell PP2.out (j := 0) (u := .slice none 0 0) rfl
                  have q1 := blk_cell PP2.out (j := 1) (u := .slice none 0 0) rfl
                  obtain ⟨q0, f0⟩ := q0
                  obtain ⟨q1, f1⟩ := q1
                  go_simp
                  refine hK.out _ _ ?_ (fun hHeld => ?_)
                  · exact ⟨((KK0.out.alloc KK0.out.size _).cell (p := ⟨w.heap.size, 0, none⟩) (by dsimp only; omega)).trans c1, ((KK0.out.alloc KK0.out.size _).cell (p := ⟨w.heap.size, 1, none⟩) (by dsimp only; omega)).trans c2, (KK0.out.alloc KK0.out.size _)⟩
                  clear hK K
                  try simp only [Act.put, List.setIfInBounds_toArray, List.set_cons_zero, List.set_cons_succ]
                  refine wpAnyH_done (by kernel_rfl) ?_ _
                  go_wp2_with fail
                  go_meet
                  show BoxOut w6 vs t0 (.pointer (some ⟨w6.heap.size, 0, none⟩)) (w6.drew.alloc (Obj.cells #[.slice _ _ _, .slice _ _ _] _))
                  exact box_new (n) (m - 1) HN.out HT.out ((HIN6.out.rv.step KK0.out).more KK0.out.size) ((HCT.out.step KK0.out).more KK0.out.size) ((by first | (simp; done) | (simp; omega) | omega)) (HIN6.out.rv.lt (by first | exact Nat.le_refl _ | omega)) (HCT.out.lt (by first | exact Nat.le_refl _ | omega)) KK0.out.size KK0.out
                exact AllReadyH.nil
              exact AllReadyH.nil
          case rest =>
            obtain ⟨w7, hw7⟩ : ∃ w7 : World, w7 = wc := ⟨_, rfl⟩
            subst hw7
            obtain ⟨g8, A8, k8, M8, d8, rfl, ⟨c9, c10⟩, hv8, hc8, ⟨hg8, hl8⟩, h7⟩ := hcut
            rw [HT.out] at c10
            rw [HN.out] at c9
            replace c3 := (h7.cell (by (try dsimp only); omega)).trans c3
            replace c4 := (h7.cell (by (try dsimp only); omega)).trans c4
            replace c5 := (h7.cell (by (try dsimp only); omega)).trans c5
            replace c6 := (h7.cell (by (try dsimp only); omega)).trans c6
            replace c7 := (h7.cell (by (try dsimp only); omega)).trans c7
            replace c8 := (h7.cell (by (try dsimp only); omega)).trans c8
            replace hb := hb.trans (h7.mono hb.size)
            have z7 := h7.size
            have HV8 := Lib.hid hv8
            have HC8 := Lib.hid hc8
            clear hv8 hc8
            have HCa := Lib.hid ((HC56.out.step h7).more h7.size)
            have HVa := Lib.hid (HV56.out.calls h7)
            have HCb := Lib.hid ((HC66.out.step h7).more h7.size)
            have HVb := Lib.hid (HV66.out.calls h7)
            have HCc := Lib.hid ((HC7.out.step h7).more h7.size)
            have HVc := Lib.hid (HV7.out.calls h7)
            clear HC56 HV56 HC66 HV66 HC7 HV7 h7
            go_wp2_with fail
            refine (CF.out _ _ HPS.out _ _ _ _ _ HV8.out HC8.out (HTB.out _ hb)).mono ?_
            rintro e w8 ⟨rfl, h8⟩
            replace c3 := (h8.cell (by (try dsimp only); omega)).trans c3
            replace c4 := (h8.cell (by (try dsimp only); omega)).trans c4
            replace c5 := (h8.cell (by (try dsimp only); omega)).trans c5
            replace c6 := (h8.cell (by (try dsimp only); omega)).trans c6
            replace c7 := (h8.cell (by (try dsimp only); omega)).trans c7
            replace c8 := (h8.cell (by (try dsimp only); omega)).trans c8
            replace hb := hb.trans (h8.mono hb.size)
            have z8 := h8.size
            have HC5F := Lib.hid ((HCa.out.step h8).more h8.size)
            have HV5F := Lib.hid (HVa.out.calls h8)
            have HC6E := Lib.hid ((HCb.out.step h8).more h8.size)
            have HV6E := Lib.hid (HVb.out.calls h8)
            have HC7E := Lib.hid ((HCc.out.step h8).more h8.size)
            have HV7E := Lib.hid (HVc.out.calls h8)
            clear HCa HVa HCb HVb HCc HVc h8 HV8 HC8 c9 c10
            by_cases hnone : v < 1 ∨ 5 < v
            · obtain rfl : kb = 1 := HBAD.out.2 hnone
              clear HBAD
              rcases hnone with hv1 | hv1
              · have t1 : decide (v < 1) = true := by simp; omega
                go_wp2_with fail
                refine (CM.out _ _ _ _ _ HV5F.out HC5F.out (HTB.out _ hb)).mono ?_
                rintro e x1 ⟨rfl, k1⟩
                have e5 := (k1.cell (p := ⟨g6, 0, none⟩) (by (try dsimp only); omega)).trans c5
                have e6 := (k1.cell (p := ⟨g6, 1, none⟩) (by (try dsimp only); omega)).trans c6
                have e7 := (k1.cell (p := ⟨g7, 0, none⟩) (by (try dsimp only); omega)).trans c7
                have e8 := (k1.cell (p := ⟨g7, 1, none⟩) (by (try dsimp only); omega)).trans c8
                have HV6F := Lib.hid (HV6E.out.calls k1)
                have HC6F := Lib.hid ((HC6E.out.step k1).more k1.size)
                have HV7F := Lib.hid (HV7E.out.calls k1)
                have HC7F := Lib.hid ((HC7E.out.step k1).more k1.size)
                have zx1 := k1.size
                have hb1 := hb.trans (k1.mono hb.size)
                clear k1
                go_wp2_with fail
                refine (CB.out _ _ _ _ _ HV6F.out HC6F.out (HTB.out _ hb1)).mono ?_
                rintro e x2 ⟨rfl, k2⟩
                have o7 := (k2.cell (p := ⟨g7, 0, none⟩) (by (try dsimp only); omega)).trans e7
                have o8 := (k2.cell (p := ⟨g7, 1, none⟩) (by (try dsimp only); omega)).trans e8
                have HV7G := Lib.hid (HV7F.out.calls k2)
                have HC7G := Lib.hid ((HC7F.out.step k2).more k2.size)
                have hb2 := hb1.trans (k2.mono hb1.size)
                clear k2
                go_wp2_with fail
                refine (CL.out _ _ _ _ _ HV7G.out HC7G.out (HTB.out _ hb2)).mono ?_
                rintro e x3 ⟨rfl, k3⟩
                have hb3 := hb2.trans (k3.mono hb2.size)
                go_wp2
                go_ret
                exact ⟨rfl, hb3⟩
              · have t1 : decide (v < 1) = false := by simp; omega
                have t2 : decide (v > 5) = true := by simp; omega
                have t3 : decide (5 < v) = true := by simp; omega
                go_wp2_with fail
                refine (CM.out _ _ _ _ _ HV5F.out HC5F.out (HTB.out _ hb)).mono ?_
                rintro e x1 ⟨rfl, k1⟩
                have e5 := (k1.cell (p := ⟨g6, 0, none⟩) (by (try dsimp only); omega)).trans c5
                have e6 := (k1.cell (p := ⟨g6, 1, none⟩) (by (try dsimp only); omega)).trans c6
                have e7 := (k1.cell (p := ⟨g7, 0, none⟩) (by (try dsimp only); omega)).trans c7
                have e8 := (k1.cell (p := ⟨g7, 1, none⟩) (by (try dsimp only); omega)).trans c8
                have HV6F := Lib.hid (HV6E.out.calls k1)
                have HC6F := Lib.hid ((HC6E.out.step k1).more k1.size)
                have HV7F := Lib.hid (HV7E.out.calls k1)
                have HC7F := Lib.hid ((HC7E.out.step k1).more k1.size)
                have zx1 := k1.size
                have hb1 := hb.trans (k1.mono hb.size)
                clear k1
                go_wp2_with fail
                refine (CB.out _ _ _ _ _ HV6F.out HC6F.out (HTB.out _ hb1)).mono ?_
                rintro e x2 ⟨rfl, k2⟩
                have o7 := (k2.cell (p := ⟨g7, 0, none⟩) (by (try dsimp only); omega)).trans e7
                have o8 := (k2.cell (p := ⟨g7, 1, none⟩) (by (try dsimp only); omega)).trans e8
                have HV7G := Lib.hid (HV7F.out.calls k2)
                have HC7G := Lib.hid ((HC7F.out.step k2).more k2.size)
                have hb2 := hb1.trans (k2.mono hb1.size)
                clear k2
                go_wp2_with fail
                refine (CL.out _ _ _ _ _ HV7G.out HC7G.out (HTB.out _ hb2)).mono ?_
                rintro e x3 ⟨rfl, k3⟩
                have hb3 := hb2.trans (k3.mono hb2.size)
                go_wp2
                go_ret
                exact ⟨rfl, hb3⟩
            · have hk1 : kb ≠ 1 := fun e => hnone (HBAD.out.1 e)
              have u1 : (kb == 1) = false := by simpa using hk1
              clear HBAD hk1
              have t1 : decide (v < 1) = false := by simp; omega
              have t2 : decide (v > 5) = false := by simp; omega
              have t3 : decide (5 < v) = false := by simp; omega
              go_wp2_with fail
              refine (CM.out _ _ _ _ _ HV5F.out HC5F.out (HTB.out _ hb)).mono ?_
              rintro e x1 ⟨rfl, k1⟩
              have e5 := (k1.cell (p := ⟨g6, 0, none⟩) (by (try dsimp only); omega)).trans c5
              have e6 := (k1.cell (p := ⟨g6, 1, none⟩) (by (try dsimp only); omega)).trans c6
              have e7 := (k1.cell (p := ⟨g7, 0, none⟩) (by (try dsimp only); omega)).trans c7
              have e8 := (k1.cell (p := ⟨g7, 1, none⟩) (by (try dsimp only); omega)).trans c8
              have HV6F := Lib.hid (HV6E.out.calls k1)
              have HC6F := Lib.hid ((HC6E.out.step k1).more k1.size)
              have HV7F := Lib.hid (HV7E.out.calls k1)
              have HC7F := Lib.hid ((HC7E.out.step k1).more k1.size)
              have zx1 := k1.size
              have hb1 := hb.trans (k1.mono hb.size)
              clear k1
              go_wp2_with fail
              refine (CB.out _ _ _ _ _ HV6F.out HC6F.out (HTB.out _ hb1)).mono ?_
              rintro e x2 ⟨rfl, k2⟩
              have o7 := (k2.cell (p := ⟨g7, 0, none⟩) (by (try dsimp only); omega)).trans e7
              have o8 := (k2.cell (p := ⟨g7, 1, none⟩) (by (try dsimp only); omega)).trans e8
              have HV7G := Lib.hid (HV7F.out.calls k2)
              have HC7G := Lib.hid ((HC7F.out.step k2).more k2.size)
              have hb2 := hb1.trans (k2.mono hb1.size)
              clear k2
              go_wp2_with fail
              refine (CL.out _ _ _ _ _ HV7G.out HC7G.out (HTB.out _ hb2)).mono ?_
              rintro e x3 ⟨rfl, k3⟩
              have hb3 := hb2.trans (k3.mono hb2.size)
              go_wp2
              go_ret
              exact ⟨rfl, hb3⟩
theorem walk_PathErrors (A B : Option Addr) (cv cp : Nat) (vs : List Int) (ps : List Pnt) (v : Int) (w : World) (hin : PathIn w A B cv cp vs ps) :
    Calls Tryd.prog 8 #[PathA A vs.length cv B ps.length cp, .int .i64 v] w fun e w' => e = .returned (.bool true) ∧ Below w.heap.size w w' := by
  cases hb : bnd7 vs.length ps.length
  · exact errors7_far A B cv cp vs ps v w hin hb
  · rcases Nat.lt_or_ge 500 vs.length with h2 | h2
    · exact errors7_long A B cv cp vs ps v w hin hb h2
    · by_cases h0 : pathE vs ps = 0
      · exact errors7_main A B cv cp vs ps v w hin hb h2 h0
      · exact errors7_none A B cv cp vs ps v w hin hb h2 h0
end Go.Proofs.YtalgmnnimfenpaaDoor
