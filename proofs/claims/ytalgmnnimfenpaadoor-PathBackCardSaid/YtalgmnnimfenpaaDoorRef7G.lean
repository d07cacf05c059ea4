/- Subpaths that are joined: the document's own answer. -/
import Derived.Test.YtalgmnnimfenpaaDoorApp8
import Derived.Test.YtalgmnnimfenpaaDoorSegs
namespace Go.Proofs.YtalgmnnimfenpaaDoor
open Go.RowKit
set_option linter.unusedVariables false
set_option linter.unusedSimpArgs false
set_option maxHeartbeats 4000000
set_option maxRecDepth 100000

theorem joinVs_at {l : List SubV} {i : Nat} {x : SubV} (h : l[i]? = some x) : joinVs (l.take (i + 1)) = joinVs (l.take i) ++ subVs x := by
  rw [List.take_add_one, h]; exact joinVs_snoc' _ _
where joinVs_snoc' (o : List SubV) (x : SubV) : joinVs (o ++ [x]) = joinVs o ++ subVs x := by unfold joinVs; simp
theorem joinPs_at {l : List SubV} {i : Nat} {x : SubV} (h : l[i]? = some x) : joinPs (l.take (i + 1)) = joinPs (l.take i) ++ subPs x := by
  rw [List.take_add_one, h]; exact joinPs_snoc _ _
theorem joinVs_pre (l : List SubV) (i : Nat) : (joinVs (l.take i)).length ≤ (joinVs l).length := by
  conv => rhs; rw [← List.take_append_drop i l]
  unfold joinVs; rw [List.flatMap_append, List.length_append]; omega
theorem joinPs_pre (l : List SubV) (i : Nat) : (joinPs (l.take i)).length ≤ (joinPs l).length := by
  conv => rhs; rw [← List.take_append_drop i l]
  unfold joinPs; rw [List.flatMap_append, List.length_append]; omega

theorem seg_take_v {l : List SegV} {j : Nat} {g : SegV} (h : l[j]? = some g) : (l.take (j + 1)).flatMap segVs = (l.take j).flatMap segVs ++ segVs g := by
  rw [List.take_add_one, h]; simp
theorem seg_take_p {l : List SegV} {j : Nat} {g : SegV} (h : l[j]? = some g) : (l.take (j + 1)).flatMap segPs = (l.take j).flatMap segPs ++ segPs g := by
  rw [List.take_add_one, h]; simp
theorem seg_pre_v (l : List SegV) (j : Nat) : ((l.take j).flatMap segVs).length ≤ (l.flatMap segVs).length := by
  conv => rhs; rw [← List.take_append_drop j l]
  rw [List.flatMap_append, List.length_append]; omega
theorem seg_pre_p (l : List SegV) (j : Nat) : ((l.take j).flatMap segPs).length ≤ (l.flatMap segPs).length := by
  conv => rhs; rw [← List.take_append_drop j l]
  rw [List.flatMap_append, List.length_append]; omega

theorem r7join_any (A : Option Addr) (ca : Nat) (l : List SubV) (w : World) (h : Subs w w.heap.size A l) (b1 : l.length ≤ 1000000) (b2 : ∀ x ∈ l, x.2.1.length ≤ 1000000) (b3 : (joinVs l).length ≤ 1000000) (b4 : (joinPs l).length ≤ 1000000) :
    Calls Tryd.prog 27 #[.slice A l.length ca] w fun e w' => ∃ A' c' B' d', e = .returned (PathA A' (joinVs l).length c' B' (joinPs l).length d') ∧ Vals w' w'.heap.size A' ((joinVs l).map iV) ∧ Cor w' w'.heap.size B' (joinPs l) ∧ Below w.heap.size w w' := by
  obtain ⟨i0, ki, kz0, kz1, kz2⟩ := info_parts info_i
  obtain ⟨i1, hi, hz0, hz1, hz2⟩ := info_parts info_pt
  have H := Lib.hid h
  have B2 := Lib.hid b2
  have B3 := Lib.hid b3
  have B4 := Lib.hid b4
  clear h b2 b3 b4
  obtain ⟨L, hL⟩ : ∃ L, l.length = L := ⟨_, rfl⟩
  rw [hL] at b1 ⊢
  have HL := Lib.hid hL
  clear hL
  go_enter Tryd.func27, Tryd.ntmps27
  go_upto_region 2 with fail
  refine any_gen (fun z => (z.cell? ⟨w.heap.size, 0, none⟩ = some (.slice none 0 0) ∧ z.cell? ⟨w.heap.size, 1, none⟩ = some (.slice none 0 0) ∧ z.frozen? ⟨w.heap.size, 0, none⟩ = false ∧ z.frozen? ⟨w.heap.size, 1, none⟩ = false) ∧ JS (w.heap.size + 1) [] [] z z (.slice none 0 0) (.slice none 0 0) ∧ Below w.heap.size w z) ⟨⟨by simp [go_sem], by simp [go_sem], by simp [go_sem], by simp [go_sem]⟩, ⟨⟨by simp [go_sem], by simp [go_sem], by simp [go_sem], by simp [go_sem], Below.refl _ _, by simp⟩, World.ownsRow_nil _ _ _ _, World.ownsRow_nil _ _ _ _, fun g hg => by cases hg⟩, ((Below.refl _ _).alloc (Nat.le_refl _) _).alloc (by simp) _⟩ ?_
  rintro w1 ⟨⟨c5, c6, e5, e6⟩, hj0, hb0⟩
  have HJ0 := Lib.hid hj0
  have hs1 := hj0.tb.sz
  clear hj0
  go_wp2
  go_loopw [4] (fun s4 wr => ∃ (i : Nat) (va v : Value), s4 = .int .i64 i ∧ i ≤ L ∧ JS (w.heap.size + 1) (joinVs (l.take i)) (joinPs (l.take i)) w1 wr va v) (fun s4 _ => L - (intOf s4).toNat)
  case atStart => exact ⟨0, _, _, rfl, Nat.zero_le _, HJ0.out⟩
  case round =>
    obtain ⟨i, va, v, rfl, hi', hJ⟩ := hrel
    by_cases hlt : i < L
    · obtain ⟨⟨⟨sx, sy⟩, sg, cl⟩, hp⟩ : ∃ p, l[i]? = some p := ⟨_, List.getElem?_eq_getElem (by rw [HL.out]; exact hlt)⟩
      have hbw := hb0.trans (hJ.tb.bel.mono (by omega))
      obtain ⟨ad, rfl, hB, e0, e1, ⟨Ag, cg, e2, hsg⟩, e3⟩ := (H.out.step hbw).at_ hp
      dsimp only [nx] at e0 e1 e2 e3 hsg
      have hBa : (ad.add (i * 4)).block < w.heap.size := by rw [block_add]; exact hB
      have HMEM := Lib.hid (List.mem_of_getElem? hp)
      have HVn := Lib.hid (joinVs_at hp)
      have HPn := Lib.hid (joinPs_at hp)
      have lv := Nat.le_trans (joinVs_pre l i) B3.out
      have lp := Nat.le_trans (joinPs_pre l i) B4.out
      obtain ⟨V, hV⟩ : ∃ V, joinVs (l.take i) = V := ⟨_, rfl⟩
      obtain ⟨Q, hQ⟩ : ∃ Q, joinPs (l.take i) = Q := ⟨_, rfl⟩
      rw [hV] at hJ HVn lv
      rw [hQ] at hJ HPn lp
      have p1 : decide ((i : Int) < (L : Int)) = true := by simp; omega
      have p2 : (0 : Int) ≤ (i : Int) := by omega
      have p3 : (i : Int) < (L : Int) := by omega
      have p4 : IntKind.i64.wrap ((i : Int) + 1) = (i : Int) + 1 := IntWalk.i64_in _ (by omega)
      have k0 := hJ.tb.c0
      have rv := hJ.rv
      have hsz := hJ.tb.sz
      clear hV hQ
      go_upto_region 5 with fail
      iterate 10 (first | go_step | go_simp)
      refine wpList_append_full _ rfl _ _ rfl (w.heap.size + 1 + 1) i0 _ 1 8 und_is und_is ki kz0 kz1 kz2 rfl (by omega) va V.length (V.map iV) (by rfl) (rv.alloc _) (some ⟨wr.heap.size, 0, none⟩) 1 1 [.int .i64 1] (by rfl) (by rfl) (fun j u hu => ⟨_, rfl, World.news_of_block (cs := #[.int .i64 1]) (t := 3) (fr := (0, 0)) (heap_alloc_new wr _) j u hu⟩) (by simp [Value.oneCell']) (by simp) (by simp [maxLen]; omega) (by omega) (by simp; omega) ?_
      intro a5 c5' w5 ap5
      have hJ5 := Lib.hid ((hJ.alloc _).pushV (news := [1]) rfl ap5)
      have ky := (hJ.alloc _).afterV ap5
      have m0 := ky.c0
      have n0 := ky.f0
      have bw5 := hJ.tb.bel
      clear ap5 ky k0 rv hsz hJ
      go_upto_region 6 with fail
      refine any_gen (fun z => JS (w.heap.size + 1) (V ++ [1]) Q w1 z (.slice a5 (V.length + 1) c5') v) hJ5.out ?_
      clear hJ5 m0 n0 e0 e1 e2 e3
      rintro w6 hJ6
      obtain ⟨va6, hva6⟩ : ∃ va6, Value.slice a5 (V.length + 1) c5' = va6 := ⟨_, rfl⟩
      rw [hva6] at hJ6
      have hbw6 := hb0.trans (hJ6.tb.bel.mono (by omega))
      have HSUB : ∀ z, Below w.heap.size w z → z.cell? (ad.add (i * 4)) = some (.int .i64 sx) ∧ z.cell? ⟨(ad.add (i * 4)).block, (ad.add (i * 4)).off + 1, none⟩ = some (.int .i64 sy) ∧ (∃ Ag cg, z.cell? ⟨(ad.add (i * 4)).block, (ad.add (i * 4)).off + 2, none⟩ = some (.slice Ag sg.length cg) ∧ Segs z w.heap.size Ag sg) ∧ z.cell? ⟨(ad.add (i * 4)).block, (ad.add (i * 4)).off + 3, none⟩ = some (.bool cl) := fun z hz => by
        obtain ⟨ad', ea, _, q0, q1, q2, q3⟩ := (H.out.step hz).at_ hp
        obtain rfl := Option.some.inj ea
        exact ⟨q0, q1, q2, q3⟩
      have HS := Lib.hid HSUB
      clear HSUB hp hva6
      obtain ⟨t0, t1, _, t3⟩ := HS.out _ hbw6
      have k1 := hJ6.tb.c1
      have g1 := hJ6.tb.f1
      have hsz := hJ6.tb.sz
      have hal : ∀ o : Obj, (w6.alloc o).cell? ⟨w.heap.size + 1, 1, none⟩ = some v := fun o => (World.cell?_alloc_old _ _ _ (by simp; omega)).trans k1
      go_cut [4] (fun s4 wx => s4 = .int .i64 (i : Int) ∧ ∃ v7, JS (w.heap.size + 1) (V ++ [1]) (Q ++ [(sx, sy)]) w1 wx va6 v7)
      case first =>
        have hJd := hJ6.drew
        have rp := hJd.rp
        go_region_law (refine step_append_full (by rfl) _ _ (by rfl) (w.heap.size + 1 + 1) i1 _ 2 16 und_pt und_pt hi hz0 hz1 hz2 rfl (by omega) v Q.length (flatP Q) (by rfl) (rp.alloc _) (some ⟨w6.heap.size, 0, none⟩) 1 1 [.int .i64 sx, .int .i64 sy] (by rfl) (by rfl) (fun j u hu => ⟨_, rfl, World.news_of_block (cs := #[.int .i64 sx, .int .i64 sy]) (t := 44) (fr := (0, 0)) (heap_alloc_new w6.drew _) j u hu⟩) (by simp [Value.oneCell']) (by simp) (by simp [maxLen]; omega) (by omega) (by simp; omega) ?_; intro a7 c7 w7 ap7; have ky := (hJd.alloc _).afterP ap7; have c1 := ky.c1; have f1 := ky.f1)
        all_goals
          have hJ8 := (hJd.alloc _).pushP (news := [(sx, sy)]) rfl ap7
          go_wp2_with fail
          go_meet
          exact ⟨rfl, _, hJ8⟩
      case rest =>
        clear hJ6 k1 g1 hsz hal t0 t1 t3 hbw6 hbw
        obtain ⟨rfl, v7, hJ7⟩ := hcut
        have hm := B2.out _ HMEM.out
        dsimp only at hm
        obtain ⟨m, hmm⟩ : ∃ m, sg.length = m := ⟨_, rfl⟩
        have HM := Lib.hid hmm
        rw [hmm] at hm
        clear hmm
        have hV1 : (V ++ [1]).length + (sg.flatMap segVs).length ≤ 1000000 := by
          have h1 := joinVs_pre l (i + 1)
          have h2 := B3.out
          rw [HVn.out] at h1
          simp only [subVs, List.length_append, List.length_cons, List.length_nil] at h1 ⊢
          omega
        have hQ1 : (Q ++ [(sx, sy)]).length + (sg.flatMap segPs).length ≤ 1000000 := by
          have h1 := joinPs_pre l (i + 1)
          have h2 := B4.out
          rw [HPn.out] at h1
          simp only [subPs, List.length_append, List.length_cons, List.length_nil] at h1 ⊢
          omega
        go_upto_region 7 with fail
        go_wp2_with fail
        go_loopw [5] (fun s5 wx => ∃ (j : Nat) (va v : Value), s5 = .int .i64 j ∧ j ≤ m ∧ JS (w.heap.size + 1) (V ++ [1] ++ (sg.take j).flatMap segVs) (Q ++ [(sx, sy)] ++ (sg.take j).flatMap segPs) w1 wx va v) (fun s5 _ => m - (intOf s5).toNat)
        case atStart => exact ⟨0, _, _, rfl, Nat.zero_le _, by simpa using hJ7⟩
        case round =>
          obtain ⟨j, va, v, rfl, hj, hJ⟩ := hrel
          have hbx := hb0.trans (hJ.tb.bel.mono (by omega))
          obtain ⟨t0, t1, ⟨Ag, cg, t2, hsg⟩, t3⟩ := HS.out _ hbx
          rw [HM.out] at t2
          have hsz := hJ.tb.sz
          by_cases hjt : j < m
          · obtain ⟨⟨⟨⟨a, b⟩, ⟨c, d⟩, ⟨e, f⟩, ⟨g, h⟩⟩, n⟩, hg⟩ : ∃ g, sg[j]? = some g := ⟨_, List.getElem?_eq_getElem (by rw [HM.out]; exact hjt)⟩
            obtain ⟨ag, rfl, hBg, r0, r1, r2, r3, r4, r5, r6, r7, r8⟩ := hsg.at_ hg
            dsimp only [nx] at r0 r1 r2 r3 r4 r5 r6 r7 r8
            have hva := seg_take_v hg
            have hvp := seg_take_p hg
            have lv5 := seg_pre_v sg j
            have lp5 := seg_pre_p sg j
            have lv6 := seg_pre_v sg (j + 1)
            have lp6 := seg_pre_p sg (j + 1)
            rw [hva, List.length_append] at lv6
            rw [hvp, List.length_append] at lp6
            have HVA := Lib.hid hva
            have HVP := Lib.hid hvp
            obtain ⟨V5, hV5⟩ : ∃ V5, V ++ [1] ++ (sg.take j).flatMap segVs = V5 := ⟨_, rfl⟩
            obtain ⟨Q5, hQ5⟩ : ∃ Q5, Q ++ [(sx, sy)] ++ (sg.take j).flatMap segPs = Q5 := ⟨_, rfl⟩
            have hlv : V5.length + (segVs (((a, b), (c, d), (e, f), (g, h)), n)).length ≤ 1000000 := by rw [← hV5, List.length_append]; omega
            have hlp : Q5.length + (segPs (((a, b), (c, d), (e, f), (g, h)), n)).length ≤ 1000000 := by rw [← hQ5, List.length_append]; omega
            rw [hV5, hQ5] at hJ
            have HV5 := Lib.hid hV5
            have HQ5 := Lib.hid hQ5
            have q1 : decide ((j : Int) < (m : Int)) = true := by simp; omega
            have q2 : (0 : Int) ≤ (j : Int) := by omega
            have q3 : (j : Int) < (m : Int) := by omega
            have q4 : IntKind.i64.wrap ((j : Int) + 1) = (j : Int) + 1 := IntWalk.i64_in _ (by omega)
            clear hg hsg hva hvp hV5 hQ5 lv5 lp5 lv6 lp6
            go_upto_region 11 with fail
            refine any_gen (fun z => (z.cell? ⟨wr.heap.size, 2, none⟩ = some (.int .i64 c) ∧ z.cell? ⟨wr.heap.size, 3, none⟩ = some (.int .i64 d) ∧ z.cell? ⟨wr.heap.size, 4, none⟩ = some (.int .i64 e) ∧ z.cell? ⟨wr.heap.size, 5, none⟩ = some (.int .i64 f) ∧ z.cell? ⟨wr.heap.size, 6, none⟩ = some (.int .i64 g) ∧ z.cell? ⟨wr.heap.size, 7, none⟩ = some (.int .i64 h) ∧ z.cell? ⟨wr.heap.size, 8, none⟩ = some (.int .i64 n)) ∧ wr.heap.size + 1 ≤ z.heap.size ∧ JS (w.heap.size + 1) V5 Q5 w1 z va v) ⟨⟨by simp, by simp, by simp, by simp, by simp, by simp, by simp⟩, by simp, hJ.alloc _⟩ ?_
            have HLV := Lib.hid (fun g hg => (hJ.rv.lt g hg).2)
            clear r0 r1 r2 r3 r4 r5 r6 r7 r8 t0 t1 t2 t3 hJ
            rintro w8 ⟨⟨s2, s3, s4, s5, s6, s7, s8⟩, hs8, hJ⟩
            by_cases hn : n < 2 ∨ 4 < n
            · have F := Lib.hid (show segVs (((a, b), (c, d), (e, f), (g, h)), n) = [] ∧ segPs (((a, b), (c, d), (e, f), (g, h)), n) = [] from ⟨by unfold segVs; rw [if_neg (by dsimp only; omega)], by unfold segPs; rw [if_neg (by dsimp only; omega), if_neg (by dsimp only; omega), if_neg (by dsimp only; omega)]⟩)
              have hend : JS (w.heap.size + 1) (V ++ [1] ++ (sg.take (j + 1)).flatMap segVs) (Q ++ [(sx, sy)] ++ (sg.take (j + 1)).flatMap segPs) w1 w8 va v := by
                rw [HVA.out, HVP.out, F.out.1, F.out.2, List.append_nil, List.append_nil, HV5.out, HQ5.out]; exact hJ
              by_cases hn2 : n < 2
              · have u1 : decide (n < 2) = true := by simpa using hn2
                go_wp2
                go_roundw
                case rel => exact ⟨j + 1, _, _, by go_num, by omega, hend⟩
                case measure => simp [intOf]; omega
              · have u1 : decide (n < 2) = false := by simpa using hn2
                have u2 : decide (4 < n) = true := by simp; omega
                have u3 : decide (n > 4) = true := by simp; omega
                go_wp2
                go_roundw
                case rel => exact ⟨j + 1, _, _, by go_num, by omega, hend⟩
                case measure => simp [intOf]; omega
            · have hn3 : n = 2 ∨ n = 3 ∨ n = 4 := by omega
              clear hn
              rcases hn3 with rfl | rfl | rfl
              · have k0 := hJ.tb.c0
                have rv := hJ.rv
                have hsz := hJ.tb.sz
                have hlv2 : V5.length + 1 ≤ 1000000 := hlv
                have hlp2 : Q5.length + 1 ≤ 1000000 := hlp
                have x8 : ∀ o : Obj, (w8.alloc o).cell? ⟨wr.heap.size, 8, none⟩ = some (.int .i64 2) := fun o => (World.cell?_alloc_old _ _ _ (by simp; omega)).trans s8
                go_upto_region 12 with fail
                iterate 16 (first | go_step | go_simp)
                refine wpList_append_full _ rfl _ _ rfl (w.heap.size + 1 + 1) i0 _ 1 8 und_is und_is ki kz0 kz1 kz2 rfl (by omega) va V5.length (V5.map iV) (by rfl) (rv.alloc _) (some ⟨w8.heap.size, 0, none⟩) 1 1 [.int .i64 2] (by rfl) (by rfl) (fun j u hu => ⟨_, rfl, World.news_of_block (cs := #[.int .i64 2]) (t := 3) (fr := (0, 0)) (heap_alloc_new w8 _) j u hu⟩) (by simp [Value.oneCell']) (by simp) (by simp [maxLen]; omega) (by omega) (by simp; omega) ?_
                intro a9 c9 w9 ap9
                have hne : some wr.heap.size ≠ va.ownBlock := fun k => by have := HLV.out _ k.symm; omega
                have y2 := ap9.grew.cell ((World.cell?_alloc_old _ _ _ (by simp; omega)).trans s2) hne
                have y3 := ap9.grew.cell ((World.cell?_alloc_old _ _ _ (by simp; omega)).trans s3) hne
                have y4 := ap9.grew.cell ((World.cell?_alloc_old _ _ _ (by simp; omega)).trans s4) hne
                have y5 := ap9.grew.cell ((World.cell?_alloc_old _ _ _ (by simp; omega)).trans s5) hne
                have y6 := ap9.grew.cell ((World.cell?_alloc_old _ _ _ (by simp; omega)).trans s6) hne
                have y7 := ap9.grew.cell ((World.cell?_alloc_old _ _ _ (by simp; omega)).trans s7) hne
                have y8 := ap9.grew.cell ((World.cell?_alloc_old _ _ _ (by simp; omega)).trans s8) hne
                have hJ9 := Lib.hid ((hJ.alloc _).pushV (news := [2]) rfl ap9)
                have ky := (hJ.alloc _).afterV ap9
                have m0 := ky.c0
                have n0 := ky.f0
                have hs9 := ap9.grew.size
                simp at hs9
                clear ap9 ky k0 rv hJ s2 s3 s4 s5 s6 s7 s8 x8 hsz
                go_upto_region 13 with fail
                obtain ⟨va9, hva9⟩ : ∃ va9, Value.slice a9 (V5.length + 1) c9 = va9 := ⟨_, rfl⟩
                refine any_gen (fun z => (z.cell? ⟨wr.heap.size, 2, none⟩ = some (.int .i64 c) ∧ z.cell? ⟨wr.heap.size, 3, none⟩ = some (.int .i64 d) ∧ z.cell? ⟨wr.heap.size, 4, none⟩ = some (.int .i64 e) ∧ z.cell? ⟨wr.heap.size, 5, none⟩ = some (.int .i64 f) ∧ z.cell? ⟨wr.heap.size, 6, none⟩ = some (.int .i64 g) ∧ z.cell? ⟨wr.heap.size, 7, none⟩ = some (.int .i64 h) ∧ z.cell? ⟨wr.heap.size, 8, none⟩ = some (.int .i64 2)) ∧ wr.heap.size + 1 ≤ z.heap.size ∧ JS (w.heap.size + 1) (V5 ++ [2]) Q5 w1 z va9 v) ⟨⟨(World.cell?_setCell_far _ _ _ _ (by simp; omega)).trans y2, (World.cell?_setCell_far _ _ _ _ (by simp; omega)).trans y3, (World.cell?_setCell_far _ _ _ _ (by simp; omega)).trans y4, (World.cell?_setCell_far _ _ _ _ (by simp; omega)).trans y5, (World.cell?_setCell_far _ _ _ _ (by simp; omega)).trans y6, (World.cell?_setCell_far _ _ _ _ (by simp; omega)).trans y7, (World.cell?_setCell_far _ _ _ _ (by simp; omega)).trans y8⟩, by simp [World.setCell]; omega, by rw [← hva9]; exact hJ9.out⟩ ?_
                clear hJ9 m0 n0 hva9 y2 y3 y4 y5 y6 y7 y8 hne
                rintro w10 ⟨⟨s2, s3, s4, s5, s6, s7, s8⟩, hs10, hJ⟩
                have k1 := hJ.tb.c1
                have g1 := hJ.tb.f1
                have hsz := hJ.tb.sz
                have hJd := hJ.drew
                have rp := hJd.rp
                have NW := Lib.hid (show ∀ (j : Nat) (u : Value), ([.int .i64 c, .int .i64 d] : List Value)[j]? = some u → ∃ ad, (some ⟨wr.heap.size, 2, none⟩ : Option Addr) = some ad ∧ w10.drew.cell? (ad.add j) = some u from fun j u hu => by
                  match j, hu with
                  | 0, hu => cases hu; exact ⟨_, rfl, s2⟩
                  | 1, hu => cases hu; exact ⟨_, rfl, s3⟩
                  | k + 2, hu => simp at hu)
                have HE1 := Lib.hid (show V5 ++ [2] = V ++ [1] ++ (sg.take (j + 1)).flatMap segVs by rw [HVA.out, ← List.append_assoc, HV5.out]; rfl)
                have HE2 := Lib.hid (show Q5 ++ [(c, d)] = Q ++ [(sx, sy)] ++ (sg.take (j + 1)).flatMap segPs by rw [HVP.out, ← List.append_assoc, HQ5.out]; rfl)
                go_region_law (refine step_append_full (by rfl) _ _ (by rfl) (w.heap.size + 1 + 1) i1 _ 2 16 und_pt und_pt hi hz0 hz1 hz2 rfl (by omega) v Q5.length (flatP Q5) (by rfl) rp (some ⟨wr.heap.size, 2, none⟩) 1 3 [.int .i64 c, .int .i64 d] (by rfl) (by rfl) NW.out (by simp [Value.oneCell']) (by simp) (by simp [maxLen]; omega) (by omega) (by simp; omega) ?_; intro a7 c7 w7 ap7; have ky := hJd.afterP ap7; have c1 := ky.c1; have f1 := ky.f1)
                all_goals
                  have hend := hJd.pushP (news := [(c, d)]) rfl ap7
                  rw [HE1.out, HE2.out] at hend
                  go_wp2
                  go_roundw
                  case rel => exact ⟨j + 1, _, _, by go_num, by omega, hend⟩
                  case measure => simp [intOf]; omega
              · have k0 := hJ.tb.c0
                have rv := hJ.rv
                have hsz := hJ.tb.sz
                have hlv2 : V5.length + 1 ≤ 1000000 := hlv
                have hlp2 : Q5.length + 2 ≤ 1000000 := hlp
                have x8 : ∀ o : Obj, (w8.alloc o).cell? ⟨wr.heap.size, 8, none⟩ = some (.int .i64 3) := fun o => (World.cell?_alloc_old _ _ _ (by simp; omega)).trans s8
                go_upto_region 12 with fail
                iterate 16 (first | go_step | go_simp)
                refine wpList_append_full _ rfl _ _ rfl (w.heap.size + 1 + 1) i0 _ 1 8 und_is und_is ki kz0 kz1 kz2 rfl (by omega) va V5.length (V5.map iV) (by rfl) (rv.alloc _) (some ⟨w8.heap.size, 0, none⟩) 1 1 [.int .i64 3] (by rfl) (by rfl) (fun j u hu => ⟨_, rfl, World.news_of_block (cs := #[.int .i64 3]) (t := 3) (fr := (0, 0)) (heap_alloc_new w8 _) j u hu⟩) (by simp [Value.oneCell']) (by simp) (by simp [maxLen]; omega) (by omega) (by simp; omega) ?_
                intro a9 c9 w9 ap9
                have hne : some wr.heap.size ≠ va.ownBlock := fun k => by have := HLV.out _ k.symm; omega
                have y2 := ap9.grew.cell ((World.cell?_alloc_old _ _ _ (by simp; omega)).trans s2) hne
                have y3 := ap9.grew.cell ((World.cell?_alloc_old _ _ _ (by simp; omega)).trans s3) hne
                have y4 := ap9.grew.cell ((World.cell?_alloc_old _ _ _ (by simp; omega)).trans s4) hne
                have y5 := ap9.grew.cell ((World.cell?_alloc_old _ _ _ (by simp; omega)).trans s5) hne
                have y6 := ap9.grew.cell ((World.cell?_alloc_old _ _ _ (by simp; omega)).trans s6) hne
                have y7 := ap9.grew.cell ((World.cell?_alloc_old _ _ _ (by simp; omega)).trans s7) hne
                have y8 := ap9.grew.cell ((World.cell?_alloc_old _ _ _ (by simp; omega)).trans s8) hne
                have hJ9 := Lib.hid ((hJ.alloc _).pushV (news := [3]) rfl ap9)
                have ky := (hJ.alloc _).afterV ap9
                have m0 := ky.c0
                have n0 := ky.f0
                have hs9 := ap9.grew.size
                simp at hs9
                clear ap9 ky k0 rv hJ s2 s3 s4 s5 s6 s7 s8 x8 hsz
                go_upto_region 13 with fail
                obtain ⟨va9, hva9⟩ : ∃ va9, Value.slice a9 (V5.length + 1) c9 = va9 := ⟨_, rfl⟩
                refine any_gen (fun z => (z.cell? ⟨wr.heap.size, 2, none⟩ = some (.int .i64 c) ∧ z.cell? ⟨wr.heap.size, 3, none⟩ = some (.int .i64 d) ∧ z.cell? ⟨wr.heap.size, 4, none⟩ = some (.int .i64 e) ∧ z.cell? ⟨wr.heap.size, 5, none⟩ = some (.int .i64 f) ∧ z.cell? ⟨wr.heap.size, 6, none⟩ = some (.int .i64 g) ∧ z.cell? ⟨wr.heap.size, 7, none⟩ = some (.int .i64 h) ∧ z.cell? ⟨wr.heap.size, 8, none⟩ = some (.int .i64 3)) ∧ wr.heap.size + 1 ≤ z.heap.size ∧ JS (w.heap.size + 1) (V5 ++ [3]) Q5 w1 z va9 v) ⟨⟨(World.cell?_setCell_far _ _ _ _ (by simp; omega)).trans y2, (World.cell?_setCell_far _ _ _ _ (by simp; omega)).trans y3, (World.cell?_setCell_far _ _ _ _ (by simp; omega)).trans y4, (World.cell?_setCell_far _ _ _ _ (by simp; omega)).trans y5, (World.cell?_setCell_far _ _ _ _ (by simp; omega)).trans y6, (World.cell?_setCell_far _ _ _ _ (by simp; omega)).trans y7, (World.cell?_setCell_far _ _ _ _ (by simp; omega)).trans y8⟩, by simp [World.setCell]; omega, by rw [← hva9]; exact hJ9.out⟩ ?_
                clear hJ9 m0 n0 hva9 y2 y3 y4 y5 y6 y7 y8 hne
                rintro w10 ⟨⟨s2, s3, s4, s5, s6, s7, s8⟩, hs10, hJ⟩
                have k1 := hJ.tb.c1
                have g1 := hJ.tb.f1
                have hsz := hJ.tb.sz
                have hJd := hJ.drew
                have rp := hJd.rp
                have NW := Lib.hid (show ∀ (j : Nat) (u : Value), ([.int .i64 c, .int .i64 d, .int .i64 e, .int .i64 f] : List Value)[j]? = some u → ∃ ad, (some ⟨wr.heap.size, 2, none⟩ : Option Addr) = some ad ∧ w10.drew.cell? (ad.add j) = some u from fun j u hu => by
                  match j, hu with
                  | 0, hu => cases hu; exact ⟨_, rfl, s2⟩
                  | 1, hu => cases hu; exact ⟨_, rfl, s3⟩
                  | 2, hu => cases hu; exact ⟨_, rfl, s4⟩
                  | 3, hu => cases hu; exact ⟨_, rfl, s5⟩
                  | k + 4, hu => simp at hu)
                have HE1 := Lib.hid (show V5 ++ [3] = V ++ [1] ++ (sg.take (j + 1)).flatMap segVs by rw [HVA.out, ← List.append_assoc, HV5.out]; rfl)
                have HE2 := Lib.hid (show Q5 ++ [(c, d), (e, f)] = Q ++ [(sx, sy)] ++ (sg.take (j + 1)).flatMap segPs by rw [HVP.out, ← List.append_assoc, HQ5.out]; rfl)
                go_region_law (refine step_append_full (by rfl) _ _ (by rfl) (w.heap.size + 1 + 1) i1 _ 2 16 und_pt und_pt hi hz0 hz1 hz2 rfl (by omega) v Q5.length (flatP Q5) (by rfl) rp (some ⟨wr.heap.size, 2, none⟩) 2 3 [.int .i64 c, .int .i64 d, .int .i64 e, .int .i64 f] (by rfl) (by rfl) NW.out (by simp [Value.oneCell']) (by simp) (by simp [maxLen]; omega) (by omega) (by simp; omega) ?_; intro a7 c7 w7 ap7; have ky := hJd.afterP ap7; have c1 := ky.c1; have f1 := ky.f1)
                all_goals
                  have hend := hJd.pushP (news := [(c, d), (e, f)]) rfl ap7
                  rw [HE1.out, HE2.out] at hend
                  go_wp2
                  go_roundw
                  case rel => exact ⟨j + 1, _, _, by go_num, by omega, hend⟩
                  case measure => simp [intOf]; omega
              · have k0 := hJ.tb.c0
                have rv := hJ.rv
                have hsz := hJ.tb.sz
                have hlv2 : V5.length + 1 ≤ 1000000 := hlv
                have hlp2 : Q5.length + 3 ≤ 1000000 := hlp
                have x8 : ∀ o : Obj, (w8.alloc o).cell? ⟨wr.heap.size, 8, none⟩ = some (.int .i64 4) := fun o => (World.cell?_alloc_old _ _ _ (by simp; omega)).trans s8
                go_upto_region 12 with fail
                iterate 16 (first | go_step | go_simp)
                refine wpList_append_full _ rfl _ _ rfl (w.heap.size + 1 + 1) i0 _ 1 8 und_is und_is ki kz0 kz1 kz2 rfl (by omega) va V5.length (V5.map iV) (by rfl) (rv.alloc _) (some ⟨w8.heap.size, 0, none⟩) 1 1 [.int .i64 4] (by rfl) (by rfl) (fun j u hu => ⟨_, rfl, World.news_of_block (cs := #[.int .i64 4]) (t := 3) (fr := (0, 0)) (heap_alloc_new w8 _) j u hu⟩) (by simp [Value.oneCell']) (by simp) (by simp [maxLen]; omega) (by omega) (by simp; omega) ?_
                intro a9 c9 w9 ap9
                have hne : some wr.heap.size ≠ va.ownBlock := fun k => by have := HLV.out _ k.symm; omega
                have y2 := ap9.grew.cell ((World.cell?_alloc_old _ _ _ (by simp; omega)).trans s2) hne
                have y3 := ap9.grew.cell ((World.cell?_alloc_old _ _ _ (by simp; omega)).trans s3) hne
                have y4 := ap9.grew.cell ((World.cell?_alloc_old _ _ _ (by simp; omega)).trans s4) hne
                have y5 := ap9.grew.cell ((World.cell?_alloc_old _ _ _ (by simp; omega)).trans s5) hne
                have y6 := ap9.grew.cell ((World.cell?_alloc_old _ _ _ (by simp; omega)).trans s6) hne
                have y7 := ap9.grew.cell ((World.cell?_alloc_old _ _ _ (by simp; omega)).trans s7) hne
                have y8 := ap9.grew.cell ((World.cell?_alloc_old _ _ _ (by simp; omega)).trans s8) hne
                have hJ9 := Lib.hid ((hJ.alloc _).pushV (news := [4]) rfl ap9)
                have ky := (hJ.alloc _).afterV ap9
                have m0 := ky.c0
                have n0 := ky.f0
                have hs9 := ap9.grew.size
                simp at hs9
                clear ap9 ky k0 rv hJ s2 s3 s4 s5 s6 s7 s8 x8 hsz
                go_upto_region 13 with fail
                obtain ⟨va9, hva9⟩ : ∃ va9, Value.slice a9 (V5.length + 1) c9 = va9 := ⟨_, rfl⟩
                refine any_gen (fun z => (z.cell? ⟨wr.heap.size, 2, none⟩ = some (.int .i64 c) ∧ z.cell? ⟨wr.heap.size, 3, none⟩ = some (.int .i64 d) ∧ z.cell? ⟨wr.heap.size, 4, none⟩ = some (.int .i64 e) ∧ z.cell? ⟨wr.heap.size, 5, none⟩ = some (.int .i64 f) ∧ z.cell? ⟨wr.heap.size, 6, none⟩ = some (.int .i64 g) ∧ z.cell? ⟨wr.heap.size, 7, none⟩ = some (.int .i64 h) ∧ z.cell? ⟨wr.heap.size, 8, none⟩ = some (.int .i64 4)) ∧ wr.heap.size + 1 ≤ z.heap.size ∧ JS (w.heap.size + 1) (V5 ++ [4]) Q5 w1 z va9 v) ⟨⟨(World.cell?_setCell_far _ _ _ _ (by simp; omega)).trans y2, (World.cell?_setCell_far _ _ _ _ (by simp; omega)).trans y3, (World.cell?_setCell_far _ _ _ _ (by simp; omega)).trans y4, (World.cell?_setCell_far _ _ _ _ (by simp; omega)).trans y5, (World.cell?_setCell_far _ _ _ _ (by simp; omega)).trans y6, (World.cell?_setCell_far _ _ _ _ (by simp; omega)).trans y7, (World.cell?_setCell_far _ _ _ _ (by simp; omega)).trans y8⟩, by simp [World.setCell]; omega, by rw [← hva9]; exact hJ9.out⟩ ?_
                clear hJ9 m0 n0 hva9 y2 y3 y4 y5 y6 y7 y8 hne
                rintro w10 ⟨⟨s2, s3, s4, s5, s6, s7, s8⟩, hs10, hJ⟩
                have k1 := hJ.tb.c1
                have g1 := hJ.tb.f1
                have hsz := hJ.tb.sz
                have hJd := hJ.drew
                have rp := hJd.rp
                have NW := Lib.hid (show ∀ (j : Nat) (u : Value), ([.int .i64 c, .int .i64 d, .int .i64 e, .int .i64 f, .int .i64 g, .int .i64 h] : List Value)[j]? = some u → ∃ ad, (some ⟨wr.heap.size, 2, none⟩ : Option Addr) = some ad ∧ w10.drew.cell? (ad.add j) = some u from fun j u hu => by
                  match j, hu with
                  | 0, hu => cases hu; exact ⟨_, rfl, s2⟩
                  | 1, hu => cases hu; exact ⟨_, rfl, s3⟩
                  | 2, hu => cases hu; exact ⟨_, rfl, s4⟩
                  | 3, hu => cases hu; exact ⟨_, rfl, s5⟩
                  | 4, hu => cases hu; exact ⟨_, rfl, s6⟩
                  | 5, hu => cases hu; exact ⟨_, rfl, s7⟩
                  | k + 6, hu => simp at hu)
                have HE1 := Lib.hid (show V5 ++ [4] = V ++ [1] ++ (sg.take (j + 1)).flatMap segVs by rw [HVA.out, ← List.append_assoc, HV5.out]; rfl)
                have HE2 := Lib.hid (show Q5 ++ [(c, d), (e, f), (g, h)] = Q ++ [(sx, sy)] ++ (sg.take (j + 1)).flatMap segPs by rw [HVP.out, ← List.append_assoc, HQ5.out]; rfl)
                go_region_law (refine step_append_full (by rfl) _ _ (by rfl) (w.heap.size + 1 + 1) i1 _ 2 16 und_pt und_pt hi hz0 hz1 hz2 rfl (by omega) v Q5.length (flatP Q5) (by rfl) rp (some ⟨wr.heap.size, 2, none⟩) 3 3 [.int .i64 c, .int .i64 d, .int .i64 e, .int .i64 f, .int .i64 g, .int .i64 h] (by rfl) (by rfl) NW.out (by simp [Value.oneCell']) (by simp) (by simp [maxLen]; omega) (by omega) (by simp; omega) ?_; intro a7 c7 w7 ap7; have ky := hJd.afterP ap7; have c1 := ky.c1; have f1 := ky.f1)
                all_goals
                  have hend := hJd.pushP (news := [(c, d), (e, f), (g, h)]) rfl ap7
                  rw [HE1.out, HE2.out] at hend
                  go_wp2
                  go_roundw
                  case rel => exact ⟨j + 1, _, _, by go_num, by omega, hend⟩
                  case measure => simp [intOf]; omega
          · obtain rfl : j = m := by omega
            have hm2 : sg.take j = sg := by rw [← HM.out, List.take_length]
            rw [hm2] at hJ
            have HE2 := Lib.hid (show Q ++ [(sx, sy)] ++ sg.flatMap segPs = joinPs (l.take (i + 1)) by rw [HPn.out]; simp [subPs])
            rw [HE2.out] at hJ
            obtain ⟨V6, hV6⟩ : ∃ V6, V ++ [1] ++ sg.flatMap segVs = V6 := ⟨_, rfl⟩
            have hl6 : V6.length ≤ 1000000 := by rw [← hV6, List.length_append]; exact hV1
            rw [hV6] at hJ
            have HV6 := Lib.hid hV6
            have q1 : decide ((j : Int) < (j : Int)) = false := by simp
            have k0 := hJ.tb.c0
            have rv := hJ.rv
            clear hm2 hV6 hsg
            cases cl with
            | false =>
              have HE1 := Lib.hid (show V6 = joinVs (l.take (i + 1)) by rw [HVn.out, ← HV6.out]; simp [subVs])
              rw [HE1.out] at hJ
              go_wp2
              go_roundw
              case rel => exact ⟨i + 1, _, _, by go_num, by omega, hJ⟩
              case measure => simp [intOf]; omega
            | true =>
              have HE1 := Lib.hid (show V6 ++ [5] = joinVs (l.take (i + 1)) by rw [HVn.out, ← HV6.out]; simp [subVs])
              go_upto_region 15 with fail
              iterate 10 (first | go_step | go_simp)
              refine wpList_append_full _ rfl _ _ rfl (w.heap.size + 1 + 1) i0 _ 1 8 und_is und_is ki kz0 kz1 kz2 rfl (by omega) va V6.length (V6.map iV) (by rfl) (rv.alloc _) (some ⟨wr.heap.size, 0, none⟩) 1 1 [.int .i64 5] (by rfl) (by rfl) (fun j u hu => ⟨_, rfl, World.news_of_block (cs := #[.int .i64 5]) (t := 3) (fr := (0, 0)) (heap_alloc_new wr _) j u hu⟩) (by simp [Value.oneCell']) (by simp) (by simp [maxLen]; omega) (by omega) (by simp; omega) ?_
              intro a9 c9 w9 ap9
              have hend := (hJ.alloc _).pushV (news := [5]) rfl ap9
              rw [HE1.out] at hend
              have ky := (hJ.alloc _).afterV ap9
              have m0 := ky.c0
              have n0 := ky.f0
              clear ap9 ky k0 rv hJ
              go_wp2
              go_roundw
              case rel => exact ⟨i + 1, _, _, by go_num, by omega, hend⟩
              case measure => simp [intOf]; omega
    · obtain rfl : i = L := by omega
      have hi2 : l.take i = l := by rw [← HL.out, List.take_length]
      rw [hi2] at hJ
      have q1 : decide ((i : Int) < (i : Int)) = false := by simp
      obtain ⟨A1, k1, hva, hl1, hV1⟩ := vals_of_row hJ.rv
      obtain ⟨A2, k2, hvb, hl2, hC2, -⟩ := cor_of_row hJ.rp
      rw [List.length_map] at hva
      subst hva
      subst hvb
      have HF1 := Lib.hid (row_far hJ.rv (p := w.heap.size) (by omega))
      have HF2 := Lib.hid (row_far hJ.rp (p := w.heap.size) (by omega))
      have HV := Lib.hid hV1
      have HC := Lib.hid hC2
      have d0 := hJ.tb.c0
      have d1 := hJ.tb.c1
      have m5 := (hJ.tb.bel.cell (by (try dsimp only); omega)).trans c5
      have m6 := (hJ.tb.bel.cell (by (try dsimp only); omega)).trans c6
      have g5 := (hJ.tb.bel.frozen (by (try dsimp only); omega)).trans e5
      have g6 := (hJ.tb.bel.frozen (by (try dsimp only); omega)).trans e6
      have hbw := hb0.trans (hJ.tb.bel.mono (by omega))
      clear hi2 hl1 hl2 hV1 hC2 hJ c5 c6 e5 e6
      go_wp2
      refine bodyPost_ret (by simp [results, Tryd.results27, go_sem, *] <;> rfl) rfl ⟨A1, k1, A2, k2, rfl, ?_, ?_, ?_⟩
      · have h := (HV.out.set ⟨w.heap.size, 0, none⟩ (.slice A1 (joinVs l).length k1) HF1.out).set ⟨w.heap.size, 1, none⟩ (.slice A2 (joinPs l).length k2) HF1.out
        simpa [World.setCell] using h
      · have h := (HC.out.set ⟨w.heap.size, 0, none⟩ (.slice A1 (joinVs l).length k1) HF2.out).set ⟨w.heap.size, 1, none⟩ (.slice A2 (joinPs l).length k2) HF2.out
        simpa [World.setCell] using h
      · exact (hbw.setCell (Nat.le_refl _) _).setCell (Nat.le_refl _) _
end Go.Proofs.YtalgmnnimfenpaaDoor
