/- The walk of PathChains: segments begin where the one ahead ends. -/
import Derived.Test.YtalgmnnimfenpaaDoorPin7
import Derived.Test.YtalgmnnimfenpaaDoorChainNum
import Derived.Test.YtalgmnnimfenpaaDoorApp11
import Derived.Test.YtalgmnnimfenpaaDoorCorn
namespace Go.Proofs.YtalgmnnimfenpaaDoor
open Go.RowKit
set_option linter.unusedVariables false
set_option linter.unusedSimpArgs false
set_option maxHeartbeats 8000000
set_option maxRecDepth 100000

theorem chains7_far (A B : Option Addr) (cv cp : Nat) (vs : List Int) (ps : List Pnt) (w : World) (hin : PathIn w A B cv cp vs ps) (h : bnd7 vs.length ps.length = false) :
    Calls Tryd.prog 6 #[PathA A vs.length cv B ps.length cp] w fun e w' => e = .returned (.bool true) ∧ Below w.heap.size w w' := by
  have HTB := Lib.hid (fun (x : World) (hb : Below w.heap.size w x) => hin.tb.step hb)
  obtain ⟨n, hn⟩ : ∃ n, vs.length = n := ⟨_, rfl⟩
  obtain ⟨m, hm⟩ : ∃ m, ps.length = m := ⟨_, rfl⟩
  rw [hn, hm] at h ⊢
  have HB := Lib.hid h
  clear h hn hm hin
  go_enter Tryd.func6, Tryd.ntmps6
  go_wp2_with fail
  refine (bounded7_any A B n cv m cp _).mono ?_
  rintro e w1 ⟨rfl, h1⟩
  rw [HB.out]
  have z1 := h1.size
  simp at z1
  have c1 : w1.cell? ⟨w.heap.size, 0, none⟩ = some (.slice A n cv) := (h1.cell (p := ⟨w.heap.size, 0, none⟩) (by simp)).trans (by simp)
  have c2 : w1.cell? ⟨w.heap.size, 1, none⟩ = some (.slice B m cp) := (h1.cell (p := ⟨w.heap.size, 1, none⟩) (by simp)).trans (by simp)
  have hb := ((Below.refl _ w).alloc (Nat.le_refl _) _).trans (h1.mono (by simp))
  clear h1
  go_wp2_with fail
  refine (shown7_any _ (HTB.out _ hb)).mono ?_
  rintro e w2 ⟨rfl, h2⟩
  go_wp2
  go_ret
  exact ⟨rfl, hb.trans (h2.mono hb.size)⟩
theorem chains7_bad (A B : Option Addr) (cv cp : Nat) (vs : List Int) (ps : List Pnt) (w : World) (hin : PathIn w A B cv cp vs ps) (h : bnd7 vs.length ps.length = true) (h0 : pathE vs ps ≠ 0) :
    Calls Tryd.prog 6 #[PathA A vs.length cv B ps.length cp] w fun e w' => e = .returned (.bool true) ∧ Below w.heap.size w w' := by
  have HTB := Lib.hid (fun (x : World) (hb : Below w.heap.size w x) => hin.tb.step hb)
  obtain ⟨b1, b2⟩ := bnd_ok h
  obtain ⟨n, hn⟩ : ∃ n, vs.length = n := ⟨_, rfl⟩
  obtain ⟨m, hm⟩ : ∃ m, ps.length = m := ⟨_, rfl⟩
  obtain ⟨F, hF⟩ : ∃ F, splitE vs ps = F := ⟨_, rfl⟩
  obtain ⟨N, hN⟩ : ∃ N, F.length = N := ⟨_, rfl⟩
  obtain ⟨k, hk⟩ : ∃ k, pathE vs ps = k := ⟨_, rfl⟩
  have hLn : N ≤ n := by rw [← hN, ← hF, ← hn]; exact splitE_few vs ps
  have hsg : ∀ x ∈ F, x.2.1.length ≤ n := by rw [← hF, ← hn]; exact splitE_segs vs ps
  have SPL := Lib.hid (show ∀ w, PathIn w A B cv cp vs ps → Calls Tryd.prog 11 #[PathA A n cv B m cp] w fun e w' => ∃ A' c', e = .returned (.tuple #[.slice A' N c', .int .i64 k]) ∧ Subs w' w'.heap.size A' F ∧ Below w.heap.size w w' from fun w hi => by
    have := q7split_any A B cv cp vs ps w hi.tb hi.rv hi.rp (by omega) (by omega) hi.lv hi.lp hi.mp
    rw [hn, hm, hF, hk, hN] at this
    exact this)
  rw [hn] at b1
  rw [hm] at b2
  have HIN := Lib.hid hin
  have HN := Lib.hid hN
  have HVN := Lib.hid hn
  have HSG := Lib.hid hsg
  have HF := Lib.hid hF
  have HK := Lib.hid hk
  rw [hn, hm] at h ⊢
  have HB := Lib.hid h
  rw [hk] at h0
  have hN0 : N = 0 := by rw [← hN, ← hF, splitE_bad (by rw [hk]; exact h0)]; rfl
  subst hN0
  have q4 : (k == 0) = false := by simpa using h0
  have q5 : decide (k = 0) = false := by simpa using h0
  clear h hn hm hin hF hN hk hsg HF HK HN h0
  go_enter Tryd.func6, Tryd.ntmps6
  go_wp2_with fail
  refine (bounded7_any A B n cv m cp _).mono ?_
  rintro e w1 ⟨rfl, h1⟩
  rw [HB.out]
  have z1 := h1.size
  simp at z1
  have c1 : w1.cell? ⟨w.heap.size, 0, none⟩ = some (.slice A n cv) := (h1.cell (p := ⟨w.heap.size, 0, none⟩) (by simp)).trans (by simp)
  have c2 : w1.cell? ⟨w.heap.size, 1, none⟩ = some (.slice B m cp) := (h1.cell (p := ⟨w.heap.size, 1, none⟩) (by simp)).trans (by simp)
  have hb := ((Below.refl _ w).alloc (Nat.le_refl _) _).trans (h1.mono (by simp))
  clear h1
  go_wp2_with fail
  refine (shown7_any _ (HTB.out _ hb)).mono ?_
  rintro e w2 ⟨rfl, h2⟩
  replace c1 := (h2.cell (by dsimp only; omega)).trans c1
  replace c2 := (h2.cell (by dsimp only; omega)).trans c2
  replace hb := hb.trans (h2.mono hb.size)
  have z2 := h2.size
  clear h2
  go_wp2_with fail
  refine (SPL.out _ (HIN.out.calls hb)).mono ?_
  rintro e w3 ⟨A3, k3, rfl, hS, h3⟩
  replace c1 := (h3.cell (by dsimp only; omega)).trans c1
  replace c2 := (h3.cell (by dsimp only; omega)).trans c2
  replace hb := hb.trans (h3.mono hb.size)
  have z3 := h3.size
  have HS := Lib.hid hS
  clear h3 hS c2
  clear HS
  have hbW := Lib.hid hb
  clear hb
  by_cases hn0 : n = 0
  · subst hn0
    go_wp2
    go_loop [5, 6] (fun s5 s6 => s5 = .int .i64 0 ∧ s6 = .int .i64 0) (fun _ _ => 0)
    case atStart => exact ⟨rfl, rfl⟩
    case round =>
      obtain ⟨rfl, rfl⟩ := hrel
      go_wp2
      go_loop [7] (fun s7 => s7 = .int .i64 0) (fun _ => 0)
      case atStart => rfl
      case round =>
        obtain rfl := hrel
        go_wp2
        go_ret
        exact ⟨rfl, hbW.out⟩
  · have p1 : decide ((0 : Int) < (n : Int)) = true := by simp; omega
    have p2 : (0 : Int) < (n : Int) := by omega
    have p3 : decide (0 < n) = true := by simp; omega
    go_wp2
    go_loop [5, 6] (fun s5 s6 => s5 = .int .i64 0 ∧ s6 = .int .i64 0) (fun _ _ => 0)
    case atStart => exact ⟨rfl, rfl⟩
    case round =>
      obtain ⟨rfl, rfl⟩ := hrel
      go_wp2
      go_loop [7] (fun s7 => s7 = .int .i64 0) (fun _ => 0)
      case atStart => rfl
      case round =>
        obtain rfl := hrel
        go_wp2
        go_ret
        exact ⟨rfl, hbW.out⟩
theorem chains7_good (A B : Option Addr) (cv cp : Nat) (vs : List Int) (ps : List Pnt) (w : World) (hin : PathIn w A B cv cp vs ps) (h : bnd7 vs.length ps.length = true) (h0 : pathE vs ps = 0) :
    Calls Tryd.prog 6 #[PathA A vs.length cv B ps.length cp] w fun e w' => e = .returned (.bool true) ∧ Below w.heap.size w w' := by
  have HTB := Lib.hid (fun (x : World) (hb : Below w.heap.size w x) => hin.tb.step hb)
  obtain ⟨b1, b2⟩ := bnd_ok h
  obtain ⟨n, hn⟩ : ∃ n, vs.length = n := ⟨_, rfl⟩
  obtain ⟨m, hm⟩ : ∃ m, ps.length = m := ⟨_, rfl⟩
  obtain ⟨F, hF⟩ : ∃ F, splitE vs ps = F := ⟨_, rfl⟩
  obtain ⟨N, hN⟩ : ∃ N, F.length = N := ⟨_, rfl⟩
  obtain ⟨k, hk⟩ : ∃ k, pathE vs ps = k := ⟨_, rfl⟩
  have hLn : N ≤ n := by rw [← hN, ← hF, ← hn]; exact splitE_few vs ps
  have hsg : ∀ x ∈ F, x.2.1.length ≤ n := by rw [← hF, ← hn]; exact splitE_segs vs ps
  have SPL := Lib.hid (show ∀ w, PathIn w A B cv cp vs ps → Calls Tryd.prog 11 #[PathA A n cv B m cp] w fun e w' => ∃ A' c', e = .returned (.tuple #[.slice A' N c', .int .i64 k]) ∧ Subs w' w'.heap.size A' F ∧ Below w.heap.size w w' from fun w hi => by
    have := q7split_any A B cv cp vs ps w hi.tb hi.rv hi.rp (by omega) (by omega) hi.lv hi.lp hi.mp
    rw [hn, hm, hF, hk, hN] at this
    exact this)
  rw [hn] at b1
  rw [hm] at b2
  have HIN := Lib.hid hin
  have HN := Lib.hid hN
  have HVN := Lib.hid hn
  have HSG := Lib.hid hsg
  have HF := Lib.hid hF
  have HK := Lib.hid hk
  rw [hn, hm] at h ⊢
  have HB := Lib.hid h
  obtain rfl : k = 0 := by rw [← hk]; exact h0
  have hF2 : F = splitV vs ps := by rw [← hF]; exact splitE_ok h0
  have HOK := Lib.hid (show ∀ x ∈ F, ∃ e, SubOk x e by rw [hF2]; exact split_ok h0)
  have HONE := Lib.hid (show moves7 vs = N by rw [← hN, hF2]; exact (split_ones vs ps).symm)
  clear h hn hm hin hF hN hk hsg HF HK h0 hF2
  go_enter Tryd.func6, Tryd.ntmps6
  go_wp2_with fail
  refine (bounded7_any A B n cv m cp _).mono ?_
  rintro e w1 ⟨rfl, h1⟩
  rw [HB.out]
  have z1 := h1.size
  simp at z1
  have c1 : w1.cell? ⟨w.heap.size, 0, none⟩ = some (.slice A n cv) := (h1.cell (p := ⟨w.heap.size, 0, none⟩) (by simp)).trans (by simp)
  have c2 : w1.cell? ⟨w.heap.size, 1, none⟩ = some (.slice B m cp) := (h1.cell (p := ⟨w.heap.size, 1, none⟩) (by simp)).trans (by simp)
  have hb := ((Below.refl _ w).alloc (Nat.le_refl _) _).trans (h1.mono (by simp))
  clear h1
  go_wp2_with fail
  refine (shown7_any _ (HTB.out _ hb)).mono ?_
  rintro e w2 ⟨rfl, h2⟩
  replace c1 := (h2.cell (by dsimp only; omega)).trans c1
  replace c2 := (h2.cell (by dsimp only; omega)).trans c2
  replace hb := hb.trans (h2.mono hb.size)
  have z2 := h2.size
  clear h2
  go_wp2_with fail
  refine (SPL.out _ (HIN.out.calls hb)).mono ?_
  rintro e w3 ⟨A3, k3, rfl, hS, h3⟩
  replace c1 := (h3.cell (by dsimp only; omega)).trans c1
  replace c2 := (h3.cell (by dsimp only; omega)).trans c2
  replace hb := hb.trans (h3.mono hb.size)
  have z3 := h3.size
  have HS := Lib.hid hS
  clear h3 hS c2
  have hzW := hb.size
  go_wp2
  go_loop [5, 6] (fun s5 s6 => ∃ i : Nat, s6 = .int .i64 i ∧ s5 = .int .i64 (moves7 (vs.take i) : Nat) ∧ i ≤ n) (fun _ s6 => n - (intOf s6).toNat)
  case atStart => exact ⟨0, rfl, rfl, Nat.zero_le _⟩
  case round =>
    obtain ⟨i, rfl, rfl, hi⟩ := hrel
    by_cases hlt : i < n
    · obtain ⟨v, hv⟩ : ∃ v, vs[i]? = some v := ⟨_, List.getElem?_eq_getElem (by rw [HVN.out]; exact hlt)⟩
      obtain ⟨ad, rfl, hB, e0⟩ := ints_at (HIN.out.calls hb).rv hv
      have HO := Lib.hid (moves7_take hv)
      clear hv
      obtain ⟨u, hu⟩ : ∃ u, moves7 (vs.take i) = u := ⟨_, rfl⟩
      have hul : u ≤ i := by rw [← hu]; exact Nat.le_trans List.countP_le_length (List.length_take_le _ _)
      rw [hu]
      rw [hu] at HO
      clear hu
      have p1 : decide ((i : Int) < (n : Int)) = true := by simp; omega
      have p2 : (0 : Int) ≤ (i : Int) := by omega
      have p3 : (i : Int) < (n : Int) := by omega
      have p4 : IntKind.i64.wrap ((i : Int) + 1) = (i : Int) + 1 := IntWalk.i64_in _ (by omega)
      have p5 : IntKind.i64.wrap ((u : Int) + 1) = (u : Int) + 1 := IntWalk.i64_in _ (by omega)
      by_cases hv1 : v = 1
      · subst hv1
        go_wp2
        go_round
        case rel => exact ⟨i + 1, by go_num, by rw [HO.out]; go_num, by omega⟩
        case measure => simp [intOf]; omega
      · have q1 : (v == 1) = false := by simpa using hv1
        go_wp2
        go_round
        case rel => exact ⟨i + 1, by go_num, by rw [HO.out, if_neg hv1, Nat.add_zero], by omega⟩
        case measure => simp [intOf]; omega
    · obtain rfl : i = n := by omega
      have hones : moves7 (vs.take i) = N := by rw [← HVN.out, List.take_length]; exact HONE.out
      rw [hones]
      have p1 : decide ((i : Int) < (i : Int)) = false := by simp
      have p2 : ((N : Int) != (N : Int)) = false := by simp
      clear hones
      go_wp2
      go_loopw [7] (fun s7 wr => ∃ i : Nat, s7 = .int .i64 i ∧ i ≤ N ∧ Below w3.heap.size w3 wr) (fun s7 _ => N - (intOf s7).toNat)
      case atStart => exact ⟨0, rfl, Nat.zero_le _, Below.refl _ _⟩
      case round =>
        clear p1 p2 hlt hi
        obtain ⟨i, rfl, hi, hbr⟩ := hrel
        obtain ⟨wo, hwo⟩ : ∃ wo : World, wo = wr := ⟨_, rfl⟩
        subst hwo
        have hs1 := hbr.size
        by_cases hlt : i < N
        · obtain ⟨⟨⟨sx, sy⟩, sg, cl⟩, hv⟩ : ∃ v, F[i]? = some v := ⟨_, List.getElem?_eq_getElem (by rw [HN.out]; exact hlt)⟩
          obtain ⟨ad, rfl, hB, e0, e1, ⟨Ag, cg, e2, hsg⟩, e3⟩ := (HS.out.step hbr).at_ hv
          have hm := HSG.out _ (List.mem_of_getElem? hv)
          obtain ⟨ee, hch, hcl⟩ := HOK.out _ (List.mem_of_getElem? hv)
          dsimp only [nx] at e0 e1 e2 e3 hsg hm hch hcl
          have HSGM := Lib.hid hsg
          have HCH := Lib.hid hch
          have HCL := Lib.hid hcl
          have HEE := Lib.hid (chain_end _ _ _ hch)
          obtain ⟨M, hmm⟩ : ∃ m, sg.length = m := ⟨_, rfl⟩
          rw [hmm] at e2 hm
          have HM := Lib.hid hmm
          have hBa : (ad.add (i * 4)).block < w3.heap.size := by rw [block_add]; exact hB
          have p1 : decide ((i : Int) < (N : Int)) = true := by simp; omega
          have p2 : (0 : Int) ≤ (i : Int) := by omega
          have p3 : (i : Int) < (N : Int) := by omega
          have p4 : IntKind.i64.wrap ((i : Int) + 1) = (i : Int) + 1 := IntWalk.i64_in _ (by omega)
          clear hv hsg hmm hch hcl
          go_upto_region 16 with fail
          refine any_gen (fun z => AtB wo.heap.size wo.heap.size (sx, sy) wo z) ⟨by simp [go_sem], by simp [go_sem], by simp [go_sem], by simp [go_sem], (Below.refl _ _).alloc (Nat.le_refl _) _, by simp⟩ ?_
          rintro w4 hA0
          have HA0 := Lib.hid hA0
          have k0 := e0; have k1 := e1; have k3 := e3; clear hA0 e0 e1 e3
          go_wp2
          go_loopw [9] (fun s9 wx => ∃ j : Nat, s9 = .int .i64 j ∧ j ≤ M ∧ AtB wo.heap.size wo.heap.size (endAt (sx, sy) (sg.take j)) wo wx) (fun s9 _ => M - (intOf s9).toNat)
          case atStart => exact ⟨0, rfl, Nat.zero_le _, HA0.out⟩
          case round =>
            obtain ⟨j, rfl, hj, hA⟩ := hrel
            have f2 := (hA.bel.cell (p := nx (ad.add (i * 4)) 2) (show (ad.add (i * 4)).block < _ by omega)).trans e2
            dsimp only [nx] at f2
            have hzx := hA.sz
            by_cases hjt : j < M
            · obtain ⟨⟨⟨⟨ga, gb⟩, ⟨gc, gd⟩, ⟨ge, gf⟩, ⟨gg, gh⟩⟩, gn⟩, hv⟩ : ∃ v, sg[j]? = some v := ⟨_, List.getElem?_eq_getElem (by rw [HM.out]; exact hjt)⟩
              obtain ⟨ag, rfl, hBg, t0, t1, t2, t3, t4, t5, t6, t7, t8⟩ := (HSGM.out.step (hA.bel.mono hs1)).at_ hv
              obtain ⟨hc1, _, hc2⟩ := chain_at _ _ _ _ _ HCH.out hv
              have HEN := Lib.hid (endAt_take (p := (sx, sy)) hv)
              dsimp only [nx] at t0 t1 t2 t3 t4 t5 t6 t7 t8 hc1 hc2
              rw [← hc1] at hA
              clear hc1 hv
              have p5 : decide ((j : Int) < (M : Int)) = true := by simp; omega
              have p6 : (0 : Int) ≤ (j : Int) := by omega
              have p7 : (j : Int) < (M : Int) := by omega
              have p8 : IntKind.i64.wrap ((j : Int) + 1) = (j : Int) + 1 := IntWalk.i64_in _ (by omega)
              have q1 : decide (gn < 2) = false := by simp; omega
              have q2 : decide (gn > 4) = false := by simp; omega
              have q3 : decide (4 < gn) = false := by simp; omega
              have q4 : ¬ gn < 2 := by omega
              have q5 : ¬ 4 < gn := by omega
              have q6 : gn ≤ 4 := by omega
              have q7 : 2 ≤ gn := by omega
              have NE := fun w => (show (binOp .neq 44 (P2 ga gb) (P2 ga gb)).run Tryd.prog w = .ok (.bool false) w from ne_pt7 ga gb ga gb true (decide_eq_true rfl) w)
              have EN := Lib.hid (fun w => q7end_any ga gb gc gd ge gf gg gh gn w)
              obtain ⟨⟨ux, uy⟩, hu⟩ : ∃ u, endV (((ga, gb), (gc, gd), (ge, gf), (gg, gh)), gn) = u := ⟨_, rfl⟩
              rw [hu] at EN
              have HU := Lib.hid hu
              clear hu hc2
              go_upto_region 20 with fail
              refine any_gen (fun z => (z.cell? ⟨wr.heap.size, 0, none⟩ = some (.int .i64 ga) ∧ z.cell? ⟨wr.heap.size, 1, none⟩ = some (.int .i64 gb) ∧ z.cell? ⟨wr.heap.size, 2, none⟩ = some (.int .i64 gc) ∧ z.cell? ⟨wr.heap.size, 3, none⟩ = some (.int .i64 gd) ∧ z.cell? ⟨wr.heap.size, 4, none⟩ = some (.int .i64 ge) ∧ z.cell? ⟨wr.heap.size, 5, none⟩ = some (.int .i64 gf) ∧ z.cell? ⟨wr.heap.size, 6, none⟩ = some (.int .i64 gg) ∧ z.cell? ⟨wr.heap.size, 7, none⟩ = some (.int .i64 gh) ∧ z.cell? ⟨wr.heap.size, 8, none⟩ = some (.int .i64 gn)) ∧ AtB wo.heap.size wo.heap.size (ga, gb) wo z ∧ wr.heap.size + 1 ≤ z.heap.size) ⟨⟨by simp [go_sem], by simp [go_sem], by simp [go_sem], by simp [go_sem], by simp [go_sem], by simp [go_sem], by simp [go_sem], by simp [go_sem], by simp [go_sem]⟩, hA.step ((Below.refl _ _).alloc (Nat.le_refl _) _) hA.bel.size, by simp⟩ ?_
              clear t0 t1 t2 t3 t4 t5 t6 t7 t8 hA
              rintro w5 ⟨⟨y0, y1, y2, y3, y4, y5, y6, y7, y8⟩, hA5, hz5⟩
              have a0 := hA5.c0
              have a1 := hA5.c1
              have HA5 := Lib.hid hA5
              clear hA5 hzx
              go_wp2_with fail
              refine (EN.out _).mono ?_
              rintro e w6 ⟨rfl, h6⟩
              have hA6 := HA5.out.step h6 HA5.out.bel.size
              have b0 := hA6.c0
              have b1 := hA6.c1
              have b2 := hA6.f0
              have b3 := hA6.f1
              have HA6 := Lib.hid (hA6.put (ux, uy) (Nat.le_refl _))
              clear hA6 h6 a0 a1
              go_wp2
              go_roundw
              case rel => exact ⟨j + 1, by go_num, by omega, by rw [HEN.out, HU.out]; exact HA6.out⟩
              case measure => simp [intOf]; omega
            · obtain rfl : j = M := by omega
              have hend : endAt (sx, sy) (sg.take j) = ee := by rw [← HM.out, List.take_length]; exact HEE.out
              rw [hend] at hA
              clear hend
              obtain ⟨ex, ey⟩ := ee
              have p5 : decide ((j : Int) < (j : Int)) = false := by simp
              have g0 := (hA.bel.cell (p := ad.add (i * 4)) (show (ad.add (i * 4)).block < _ by omega)).trans k0
              have g1 := (hA.bel.cell (p := nx (ad.add (i * 4)) 1) (show (ad.add (i * 4)).block < _ by omega)).trans k1
              have g3 := (hA.bel.cell (p := nx (ad.add (i * 4)) 3) (show (ad.add (i * 4)).block < _ by omega)).trans k3
              dsimp only [nx] at g1 g3
              have a0 := hA.c0
              have a1 := hA.c1
              have hbx := hbr.trans (hA.bel.mono hs1)
              clear hA
              cases cl
              · go_upto_region 23 with fail
                go_quiet (fail)
                go_wp2
                go_roundw
                case rel => exact ⟨i + 1, by go_num, by omega, below_dN hbx _⟩
                case measure => simp [intOf]; omega
              · obtain ⟨rfl, rfl⟩ : ex = sx ∧ ey = sy := by have := HCL.out rfl; simpa using this
                have NE := fun w => (show (binOp .neq 44 (P2 ex ey) (P2 ex ey)).run Tryd.prog w = .ok (.bool false) w from ne_pt7 ex ey ex ey true (decide_eq_true rfl) w)
                go_upto_region 23 with fail
                go_quiet (fail)
                go_wp2
                go_roundw
                case rel => exact ⟨i + 1, by go_num, by omega, below_dN hbx _⟩
                case measure => simp [intOf]; omega
        · obtain rfl : i = N := by omega
          have p1 : decide ((i : Int) < (i : Int)) = false := by simp
          have hbx := hb.trans (hbr.mono hb.size)
          go_wp2
          go_ret
          exact ⟨rfl, hbx⟩
theorem walk_PathChains (A B : Option Addr) (cv cp : Nat) (vs : List Int) (ps : List Pnt) (w : World) (hin : PathIn w A B cv cp vs ps) :
    Calls Tryd.prog 6 #[PathA A vs.length cv B ps.length cp] w fun e w' => e = .returned (.bool true) ∧ Below w.heap.size w w' := by
  cases hb : bnd7 vs.length ps.length
  · exact chains7_far A B cv cp vs ps w hin hb
  · by_cases h0 : pathE vs ps = 0
    · exact chains7_good A B cv cp vs ps w hin hb h0
    · exact chains7_bad A B cv cp vs ps w hin hb h0
end Go.Proofs.YtalgmnnimfenpaaDoor
