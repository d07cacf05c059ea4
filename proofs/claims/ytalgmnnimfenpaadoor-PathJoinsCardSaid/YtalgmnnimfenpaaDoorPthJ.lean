/- Subpaths that are joined: the program's own answer. -/
import Derived.Test.YtalgmnnimfenpaaDoorPthL
import Derived.Test.YtalgmnnimfenpaaDoorRef7G
namespace Go.Proofs.YtalgmnnimfenpaaDoor
open Go.RowKit
set_option linter.unusedVariables false
set_option linter.unusedSimpArgs false
set_option maxHeartbeats 4000000
set_option maxRecDepth 100000

theorem row_form {w : World} {B : Nat} {e : TypeId} {k : Nat} {v : Value} {n : Nat} {xs : List Value} (h : w.ownsRow B e k v n xs) : ∃ A c, v = .slice A n c ∧ n ≤ c ∧ c ≤ 9223372036854775807 := by
  obtain ⟨_, ⟨hv, hn⟩ | ⟨g', cap', cur, hv, _, _, hcap, hmax, _⟩⟩ := h
  · exact ⟨none, 0, by rw [hv, hn], by omega, by omega⟩
  · exact ⟨_, _, hv, hcap, hmax⟩
theorem JS.laid {G : Nat} {vs vs' : List Int} {ps ps' : List Pnt} {w1 x x' : World} {va v va' v' : Value} (h : JS G vs ps w1 x va v) (jp : JP (G + 1) vs' ps' x' va' v') (hb : Below (G + 1) x x') :
    JS G vs' ps' w1 ((x'.setCell ⟨G, 0, none⟩ va').setCell ⟨G, 1, none⟩ v') va' v' :=
  ⟨((h.tb.step hb).put0 va').put1 v', ownsRow_set (ownsRow_set jp.rv 0 va') 1 v', ownsRow_set (ownsRow_set jp.rp 0 va') 1 v', jp.ne⟩
theorem JS.jp {G : Nat} {vs : List Int} {ps : List Pnt} {w1 x : World} {va v : Value} (h : JS G vs ps w1 x va v) : JP (G + 1) vs ps x va v := ⟨h.rv, h.rp, h.ne⟩
theorem JS.after {G : Nat} {vs : List Int} {ps : List Pnt} {w1 x x' : World} {va v : Value} (h : JS G vs ps w1 x va v) (hb : Below x.heap.size x x') : JS G vs ps w1 x' va v := by
  have hs : G + 1 ≤ x.heap.size := h.tb.sz
  have k := fun (u : Value) => (show u.ownBlock = none ∨ u.ownBlock ≠ none by cases u.ownBlock <;> simp)
  exact ⟨h.tb.step (hb.mono hs), h.rv.kept (grown_of_below hb none) (k va), h.rp.kept (grown_of_below hb none) (k v), h.ne⟩
/-- A subpath in a box at block S; the rows va, v do not lie there. -/
structure BoxS (S : Nat) (sx sy : Int) (sv : Value) (cl : Bool) (va v : Value) (x : World) : Prop where
  c0 : x.cell? ⟨S, 0, none⟩ = some (.int .i64 sx)
  c1 : x.cell? ⟨S, 1, none⟩ = some (.int .i64 sy)
  c2 : x.cell? ⟨S, 2, none⟩ = some sv
  c3 : x.cell? ⟨S, 3, none⟩ = some (.bool cl)
  sz : S + 1 ≤ x.heap.size
  n1 : va.ownBlock ≠ some S
  n2 : v.ownBlock ≠ some S
theorem BoxS.alloc {S : Nat} {sx sy : Int} {sv : Value} {cl : Bool} {va v : Value} {x : World} (h : BoxS S sx sy sv cl va v x) (o : Obj) : BoxS S sx sy sv cl va v (x.alloc o) := by
  have hs := h.sz
  exact ⟨(World.cell?_alloc_old _ _ _ (by dsimp only; omega)).trans h.c0, (World.cell?_alloc_old _ _ _ (by dsimp only; omega)).trans h.c1, (World.cell?_alloc_old _ _ _ (by dsimp only; omega)).trans h.c2, (World.cell?_alloc_old _ _ _ (by dsimp only; omega)).trans h.c3, by simp; omega, h.n1, h.n2⟩
theorem BoxS.drew {S : Nat} {sx sy : Int} {sv : Value} {cl : Bool} {va v : Value} {x : World} (h : BoxS S sx sy sv cl va v x) : BoxS S sx sy sv cl va v x.drew := ⟨h.c0, h.c1, h.c2, h.c3, h.sz, h.n1, h.n2⟩
theorem BoxS.after {S : Nat} {sx sy : Int} {sv : Value} {cl : Bool} {va v : Value} {x x' : World} (h : BoxS S sx sy sv cl va v x) (hb : Below x.heap.size x x') : BoxS S sx sy sv cl va v x' := by
  have hs := h.sz
  exact ⟨(hb.cell (by dsimp only; omega)).trans h.c0, (hb.cell (by dsimp only; omega)).trans h.c1, (hb.cell (by dsimp only; omega)).trans h.c2, (hb.cell (by dsimp only; omega)).trans h.c3, Nat.le_trans hs hb.size, h.n1, h.n2⟩
theorem BoxS.laid {S G : Nat} {sx sy : Int} {sv : Value} {cl : Bool} {va v va' v' u0 u1 : Value} {x x' : World} (h : BoxS S sx sy sv cl va v x) (k : Kept2 x x' va v va' v') (hG : G ≠ S) : BoxS S sx sy sv cl va' v' ((x'.setCell ⟨G, 0, none⟩ u0).setCell ⟨G, 1, none⟩ u1) := by
  have hs := h.sz
  have n1 : some S ≠ va.ownBlock := fun e => h.n1 e.symm
  have n2 : some S ≠ v.ownBlock := fun e => h.n2 e.symm
  have st : ∀ (j : Nat) (u : Value), x.cell? ⟨S, j, none⟩ = some u → ((x'.setCell ⟨G, 0, none⟩ u0).setCell ⟨G, 1, none⟩ u1).cell? ⟨S, j, none⟩ = some u := fun j u hu =>
    (World.cell?_setCell_far _ ⟨G, 1, none⟩ _ _ hG).trans ((World.cell?_setCell_far _ ⟨G, 0, none⟩ _ _ hG).trans (k.cell hu n1 n2))
  refine ⟨st _ _ h.c0, st _ _ h.c1, st _ _ h.c2, st _ _ h.c3, ?_, ?_, ?_⟩
  · have := k.size; simp [World.setCell]; omega
  · rcases k.own1 with e | ⟨q, hq, e⟩
    · rw [e]; exact h.n1
    · rw [e]; intro c; have := Option.some.inj c; omega
  · rcases k.own2 with e | ⟨q, hq, e⟩
    · rw [e]; exact h.n2
    · rw [e]; intro c; have := Option.some.inj c; omega
theorem cor_one (z : World) (x y : Int) (t : TypeId) : Cor (z.alloc (.cells #[.int .i64 x, .int .i64 y] t)) (z.alloc (.cells #[.int .i64 x, .int .i64 y] t)).heap.size (some ⟨z.heap.size, 0, none⟩) [(x, y)] := fun _ => by
  refine ⟨_, rfl, by simp, fun i p hp => ?_⟩
  match i, hp with
  | 0, hp =>
    cases hp
    rw [Nat.zero_mul, show (⟨z.heap.size, 0, none⟩ : Addr).add 0 = ⟨z.heap.size, 0, none⟩ from rfl]
    exact ⟨by simp, by simp⟩
  | k + 1, hp => simp at hp
theorem cor_at {z : World} {T o : Nat} {l : List Pnt} (hT : T < z.heap.size) (h : ∀ (i : Nat) (p : Pnt), l[i]? = some p → z.cell? ⟨T, o + i * 2, none⟩ = some (.int .i64 p.1) ∧ z.cell? ⟨T, o + i * 2 + 1, none⟩ = some (.int .i64 p.2)) : Cor z z.heap.size (some ⟨T, o, none⟩) l := fun _ => by
  refine ⟨_, rfl, hT, fun i p hp => ?_⟩
  have ha : (⟨T, o, none⟩ : Addr).add (i * 2) = ⟨T, o + i * 2, none⟩ := by unfold Addr.add; split <;> simp_all
  rw [ha]
  exact h i p hp

theorem q7join_any (A : Option Addr) (ca : Nat) (l : List SubV) (w : World) (h : Subs w w.heap.size A l) (b1 : l.length ≤ 2000) (b2 : ∀ x ∈ l, x.2.1.length ≤ 2000) (b3 : (joinVs l).length ≤ 2000) (b4 : (joinPs l).length ≤ 2000) :
    Calls Tryd.prog 26 #[.slice A l.length ca] w fun e w' => ∃ A' c' B' d', e = .returned (PathA A' (joinVs l).length c' B' (joinPs l).length d') ∧ Vals w' w'.heap.size A' ((joinVs l).map iV) ∧ Cor w' w'.heap.size B' (joinPs l) ∧ (((joinVs l).length ≤ c' ∧ (joinPs l).length ≤ d') ∧ d' ≤ 9223372036854775807) ∧ Below w.heap.size w w' := by
  have H := Lib.hid h
  have B2 := Lib.hid b2
  have B3 := Lib.hid b3
  have B4 := Lib.hid b4
  clear h b2 b3 b4
  obtain ⟨L, hL⟩ : ∃ L, l.length = L := ⟨_, rfl⟩
  rw [hL] at b1 ⊢
  have HL := Lib.hid hL
  clear hL
  go_enter Tryd.func26, Tryd.ntmps26
  go_upto_region 2 with fail
  refine any_gen (fun z => (z.cell? ⟨w.heap.size, 0, none⟩ = some (.slice none 0 0) ∧ z.cell? ⟨w.heap.size, 1, none⟩ = some (.slice none 0 0) ∧ z.frozen? ⟨w.heap.size, 0, none⟩ = false ∧ z.frozen? ⟨w.heap.size, 1, none⟩ = false) ∧ JS (w.heap.size + 1) [] [] z z (.slice none 0 0) (.slice none 0 0) ∧ Below w.heap.size w z) ⟨⟨by simp [go_sem], by simp [go_sem], by simp [go_sem], by simp [go_sem]⟩, ⟨⟨by simp [go_sem], by simp [go_sem], by simp [go_sem], by simp [go_sem], Below.refl _ _, by simp⟩, World.ownsRow_nil _ _ _ _, World.ownsRow_nil _ _ _ _, fun g hg => by cases hg⟩, ((Below.refl _ _).alloc (Nat.le_refl _) _).alloc (by simp) _⟩ ?_
  rintro w1 ⟨⟨c5, c6, e5, e6⟩, hj0, hb0⟩
  have HJ0 := Lib.hid hj0
  have hs1 := hj0.tb.sz
  clear hj0
  go_wp2
  go_loopw [11] (fun s4 wr => ∃ (i : Nat) (va v : Value), s4 = .int .i64 i ∧ i ≤ L ∧ JS (w.heap.size + 1) (joinVs (l.take i)) (joinPs (l.take i)) w1 wr va v) (fun s4 _ => L - (intOf s4).toNat)
  case atStart => exact ⟨0, _, _, rfl, Nat.zero_le _, HJ0.out⟩
  case round =>
    obtain ⟨i, va, v, rfl, hi', hJ⟩ := hrel
    obtain ⟨A1, c1, rfl, hcap1, -⟩ := row_form hJ.rv
    obtain ⟨A2, c2, rfl, hcap, hmax⟩ := row_form hJ.rp
    by_cases hlt : i < L
    · obtain ⟨⟨⟨sx, sy⟩, sg, cl⟩, hp⟩ : ∃ p, l[i]? = some p := ⟨_, List.getElem?_eq_getElem (by rw [HL.out]; exact hlt)⟩
      have hbw := hb0.trans (hJ.tb.bel.mono (by omega))
      obtain ⟨ad, rfl, hB, e0', e1', ⟨Ag, cg, e2', hsg⟩, e3'⟩ := H.out.at_ hp
      have hBa : (ad.add (i * 4)).block < w.heap.size := by rw [block_add]; exact hB
      have e0 := (hbw.cell (by exact hBa)).trans e0'
      have e1 := (hbw.cell (by exact hBa)).trans e1'
      have e2 := (hbw.cell (by exact hBa)).trans e2'
      have e3 := (hbw.cell (by exact hBa)).trans e3'
      dsimp only [nx] at e0 e1 e2 e3 hsg
      clear e0' e1' e2' e3'
      have HMEM := Lib.hid (List.mem_of_getElem? hp)
      have HVn := Lib.hid (joinVs_at hp)
      have HPn := Lib.hid (joinPs_at hp)
      have lv := Nat.le_trans (joinVs_pre l i) B3.out
      have lp := Nat.le_trans (joinPs_pre l i) B4.out
      obtain ⟨V, hV⟩ : ∃ V, joinVs (l.take i) = V := ⟨_, rfl⟩
      obtain ⟨Q, hQ⟩ : ∃ Q, joinPs (l.take i) = Q := ⟨_, rfl⟩
      rw [hV] at hJ HVn lv
      rw [hQ] at hJ HPn lp
      have hm := B2.out _ HMEM.out
      dsimp only at hm
      have hV1 : (V ++ [1]).length + (sg.flatMap segVs).length ≤ 2000 := by
        have h1 := joinVs_pre l (i + 1)
        have h2 := B3.out
        rw [HVn.out] at h1
        simp only [subVs, List.length_append, List.length_cons, List.length_nil] at h1 ⊢
        omega
      have hQ1 : (Q ++ [(sx, sy)]).length + (sg.flatMap segPs).length ≤ 2000 := by
        have h1 := joinPs_pre l (i + 1)
        have h2 := B4.out
        rw [HPn.out] at h1
        simp only [subPs, List.length_append, List.length_cons, List.length_nil] at h1 ⊢
        omega
      have hVc : (V ++ [1]).length + (sg.flatMap segVs).length + (if cl then 1 else 0) ≤ 2000 := by
        have h1 := joinVs_pre l (i + 1)
        have h2 := B3.out
        rw [HVn.out] at h1
        simp only [subVs, List.length_append, List.length_cons, List.length_nil] at h1 ⊢
        cases cl <;> simp at h1 ⊢ <;> omega
      obtain ⟨m, hmm⟩ : ∃ m, sg.length = m := ⟨_, rfl⟩
      rw [hmm] at e2 hm
      have HM := Lib.hid hmm
      have HSG := Lib.hid hsg
      have p1 : decide ((i : Int) < (L : Int)) = true := by simp; omega
      have p2 : (0 : Int) ≤ (i : Int) := by omega
      have p3 : (i : Int) < (L : Int) := by omega
      have p4 : IntKind.i64.wrap ((i : Int) + 1) = (i : Int) + 1 := IntWalk.i64_in _ (by omega)
      have hsz := hJ.tb.sz
      have lt1 := fun g hg => (hJ.rv.lt g hg).2
      have lt2 := fun g hg => (hJ.rp.lt g hg).2
      clear hV hQ hmm hsg hbw hp
      go_upto_region 5 with fail
      refine any_gen (fun z => JS (w.heap.size + 1) V Q w1 z (.slice A1 V.length c1) (.slice A2 Q.length c2) ∧ BoxS wr.heap.size sx sy (.slice Ag m cg) cl (.slice A1 V.length c1) (.slice A2 Q.length c2) z) ⟨hJ.alloc _, ⟨by simp, by simp, by simp, by simp, by simp, fun k => by have := lt1 _ k; omega, fun k => by have := lt2 _ k; omega⟩⟩ ?_
      obtain ⟨S, hS⟩ : ∃ S, wr.heap.size = S := ⟨_, rfl⟩
      rw [hS] at hsz ⊢
      clear hJ e0 e1 e2 e3 lt1 lt2 hBa hB hS
      rintro w2 ⟨hJ, hX⟩
      have k0 := hJ.tb.c0; have k1 := hJ.tb.c1
      have x0 := hX.c0; have x1 := hX.c1
      have hxs := hX.sz
      have hlt1 := fun g hg => (hJ.rv.lt g hg).2
      have LAY := Lib.hid (q7lay_any (w.heap.size + 1 + 1) A1 A2 c1 c2 V Q 1 (some ⟨w2.heap.size, 0, none⟩) 1 1 [(sx, sy)] (w2.alloc (.cells #[.int .i64 sx, .int .i64 sy] 44)) (hJ.jp.alloc _) (by simp; omega) rfl (cor_one w2 sx sy _) (fun h => by cases h) (fun ad e k => by cases e; have := hlt1 _ k.symm; dsimp only at this; omega) (by simp at hV1; omega) (by simp at hQ1; omega))
      have HJ := Lib.hid (hJ.alloc (.cells #[.int .i64 sx, .int .i64 sy] 44))
      have HX := Lib.hid (hX.alloc (.cells #[.int .i64 sx, .int .i64 sy] 44))
      clear hJ hX hlt1
      go_wp2_with fail
      refine (LAY.out).mono ?_
      rintro e w3 ⟨a1, d1, a2, d2, rfl, jp, kp, hb3⟩
      have ky := HJ.out.tb.step hb3
      have y0 := ky.c0; have y1 := ky.c1; have z0 := ky.f0; have z1 := ky.f1
      have HJ3 := Lib.hid (HJ.out.laid jp hb3)
      have HX3 := Lib.hid (HX.out.laid (u0 := .slice a1 (V.length + 1) d1) (u1 := .slice a2 (Q.length + 1) d2) kp (show w.heap.size + 1 ≠ S by omega))
      clear jp kp hb3 ky k0 k1 x0 x1
      go_upto_region 6 with fail
      refine any_gen (fun z => JS (w.heap.size + 1) (V ++ [1]) (Q ++ [(sx, sy)]) w1 z (.slice a1 (V.length + 1) d1) (.slice a2 (Q.length + 1) d2) ∧ BoxS S sx sy (.slice Ag m cg) cl (.slice a1 (V.length + 1) d1) (.slice a2 (Q.length + 1) d2) z) ⟨HJ3.out, HX3.out⟩ ?_
      clear HJ3 HX3 y0 y1 z0 z1 LAY HJ HX
      rintro w4 ⟨hJ4, hX4⟩
      have HJ4 := Lib.hid hJ4
      have HX4 := Lib.hid hX4
      have x2 := hX4.c2
      clear hJ4 hX4
      go_upto_region 7 with fail
      go_wp2_with fail
      go_loopw [23] (fun s5 wx => ∃ (j : Nat) (va v : Value), s5 = .int .i64 j ∧ j ≤ m ∧ JS (w.heap.size + 1) (V ++ [1] ++ (sg.take j).flatMap segVs) (Q ++ [(sx, sy)] ++ (sg.take j).flatMap segPs) w1 wx va v ∧ BoxS S sx sy (.slice Ag m cg) cl va v wx) (fun s5 _ => m - (intOf s5).toNat)
      case atStart => exact ⟨0, _, _, rfl, Nat.zero_le _, by simpa using HJ4.out, HX4.out⟩
      case round =>
        clear HJ4 HX4 x2
        obtain ⟨j, va, v, rfl, hj, hJ, hX⟩ := hrel
        obtain ⟨A3, c3, rfl, -, -⟩ := row_form hJ.rv
        obtain ⟨A4, c4, rfl, -, -⟩ := row_form hJ.rp
        by_cases hjt : j < m
        · obtain ⟨⟨⟨⟨a, b⟩, ⟨c, d⟩, ⟨e, f⟩, ⟨g, h⟩⟩, n⟩, hg⟩ : ∃ g, sg[j]? = some g := ⟨_, List.getElem?_eq_getElem (by rw [HM.out]; exact hjt)⟩
          have hbx := hb0.trans (hJ.tb.bel.mono (by omega))
          obtain ⟨ag, rfl, hBg, r0, r1, r2, r3, r4, r5, r6, r7, r8⟩ := (HSG.out.step hbx).at_ hg
          dsimp only [nx] at r0 r1 r2 r3 r4 r5 r6 r7 r8
          have hva := seg_take_v hg
          have hvp := seg_take_p hg
          have lv5 := seg_pre_v sg j
          have lp5 := seg_pre_p sg j
          have lv6 := seg_pre_v sg (j + 1)
          have lp6 := seg_pre_p sg (j + 1)
          rw [hva, List.length_append] at lv6
          rw [hvp, List.length_append] at lp6
          have HVA := Lib.hid hva
          have HVP := Lib.hid hvp
          obtain ⟨V5, hV5⟩ : ∃ V5, V ++ [1] ++ (sg.take j).flatMap segVs = V5 := ⟨_, rfl⟩
          obtain ⟨Q5, hQ5⟩ : ∃ Q5, Q ++ [(sx, sy)] ++ (sg.take j).flatMap segPs = Q5 := ⟨_, rfl⟩
          have hlv : V5.length + (segVs (((a, b), (c, d), (e, f), (g, h)), n)).length ≤ 2000 := by rw [← hV5, List.length_append]; omega
          have hlp : Q5.length + (segPs (((a, b), (c, d), (e, f), (g, h)), n)).length ≤ 2000 := by rw [← hQ5, List.length_append]; omega
          rw [hV5, hQ5] at hJ hX
          have HV5 := Lib.hid hV5
          have HQ5 := Lib.hid hQ5
          have q1 : decide ((j : Int) < (m : Int)) = true := by simp; omega
          have q2 : (0 : Int) ≤ (j : Int) := by omega
          have q3 : (j : Int) < (m : Int) := by omega
          have q4 : IntKind.i64.wrap ((j : Int) + 1) = (j : Int) + 1 := IntWalk.i64_in _ (by omega)
          have lt1 := fun g hg => (hJ.rv.lt g hg).2
          have hsz5 := hJ.tb.sz
          clear hg hva hvp hV5 hQ5 lv5 lp5 lv6 lp6 hbx
          go_upto_region 9 with fail
          obtain ⟨T, hT⟩ : ∃ T, wr.heap.size = T := ⟨_, rfl⟩
          refine any_gen (fun z => (z.cell? ⟨T, 2, none⟩ = some (.int .i64 c) ∧ z.cell? ⟨T, 3, none⟩ = some (.int .i64 d) ∧ z.cell? ⟨T, 4, none⟩ = some (.int .i64 e) ∧ z.cell? ⟨T, 5, none⟩ = some (.int .i64 f) ∧ z.cell? ⟨T, 6, none⟩ = some (.int .i64 g) ∧ z.cell? ⟨T, 7, none⟩ = some (.int .i64 h) ∧ z.cell? ⟨T, 8, none⟩ = some (.int .i64 n)) ∧ T < z.heap.size ∧ JS (w.heap.size + 1) V5 Q5 w1 z (.slice A3 V5.length c3) (.slice A4 Q5.length c4) ∧ BoxS S sx sy (.slice (some ag) m cg) cl (.slice A3 V5.length c3) (.slice A4 Q5.length c4) z) (by subst hT; exact ⟨⟨by simp, by simp, by simp, by simp, by simp, by simp, by simp⟩, by simp, hJ.alloc _, hX.alloc _⟩) ?_
          have HT1 := Lib.hid (show (Value.slice A3 V5.length c3).ownBlock ≠ some T from fun k => by have := lt1 _ k; omega)
          clear r0 r1 r2 r3 r4 r5 r6 r7 r8 hJ hX lt1
          rw [hT]
          rintro w5 ⟨⟨s2, s3, s4, s5, s6, s7, s8⟩, hsT, hJ, hX⟩
          have HJ := Lib.hid hJ
          have HX := Lib.hid hX
          clear hJ hX
          by_cases hn : n = 2 ∨ n = 3 ∨ n = 4
          · rcases hn with rfl | rfl | rfl

            · have HV2 := Lib.hid (show V5 ++ [2] = V ++ [1] ++ (sg.take (j + 1)).flatMap segVs by rw [HVA.out, ← List.append_assoc, HV5.out]; rfl)
              have HQ2 := Lib.hid (show Q5 ++ [(c, d)] = Q ++ [(sx, sy)] ++ (sg.take (j + 1)).flatMap segPs by rw [HVP.out, ← List.append_assoc, HQ5.out]; rfl)
              have hlv2 : V5.length + 1 ≤ 2000 := hlv
              have hlp2 : Q5.length + 1 ≤ 2000 := hlp
              have VB := Lib.hid (fun w => q7verb_any 2 w)
              simp only [show verbV 2 = 2 from rfl] at VB
              go_wp2_with fail
              refine (VB.out _).mono ?_
              rintro e w6 ⟨rfl, h6⟩
              have hJd := (HJ.out.after h6).drew
              have hXd := (HX.out.after h6).drew
              have t8 := (h6.cell (p := ⟨T, 8, none⟩) (by dsimp only; omega)).trans s8
              have hs6 : T < w6.drew.heap.size := Nat.lt_of_lt_of_le hsT h6.size
              have NW : Cor w6.drew w6.drew.heap.size (some ⟨T, 2, none⟩) [(c, d)] := cor_at hs6 (fun i p hp => by
                have q : ∀ (j : Nat) (u : Value), w5.cell? ⟨T, j, none⟩ = some u → w6.drew.cell? ⟨T, j, none⟩ = some u := fun j u hu => (h6.cell (p := ⟨T, j, none⟩) (by dsimp only; omega)).trans hu
                match i, hp with
                | 0, hp => cases hp; exact ⟨q _ _ s2, q _ _ s3⟩
                | k + 1, hp => simp at hp)
              have LAY := Lib.hid (q7lay_any (w.heap.size + 1 + 1) A3 A4 c3 c4 V5 Q5 2 (some ⟨T, 2, none⟩) 1 3 [(c, d)] w6.drew hJd.jp hJd.tb.sz rfl NW (fun h => by cases h) (fun ad e k => by cases e; exact HT1.out k.symm) (by omega) (by omega))
              have HJd := Lib.hid hJd
              have HXd := Lib.hid hXd
              have k0 := (hJd.tb.c0 : w6.cell? _ = _); have k1 := (hJd.tb.c1 : w6.cell? _ = _)
              clear hJd hXd NW s2 s3 s4 s5 s6 s7 s8 h6
              go_wp2_with fail
              go_region_law (go_simp; go_at_call 38; refine (LAY.out).mono ?_; rintro e w7 ⟨a1, d1, a2, d2, rfl, jp, kp, hb7⟩; have ky := HJd.out.tb.step hb7; have y0 := ky.c0; have y1 := ky.c1; have z0 := ky.f0; have z1 := ky.f1)
              all_goals
                have hend := HJd.out.laid jp hb7
                have hXe := HXd.out.laid (u0 := .slice a1 (V5.length + 1) d1) (u1 := .slice a2 (Q5.length + 1) d2) kp (show w.heap.size + 1 ≠ S by omega)
                rw [HV2.out, HQ2.out] at hend
                clear jp kp hb7 ky
                go_wp2
                go_roundw
                case rel => exact ⟨j + 1, _, _, by go_num, by omega, hend, hXe⟩
                case measure => simp [intOf]; omega

            · have HV2 := Lib.hid (show V5 ++ [3] = V ++ [1] ++ (sg.take (j + 1)).flatMap segVs by rw [HVA.out, ← List.append_assoc, HV5.out]; rfl)
              have HQ2 := Lib.hid (show Q5 ++ [(c, d), (e, f)] = Q ++ [(sx, sy)] ++ (sg.take (j + 1)).flatMap segPs by rw [HVP.out, ← List.append_assoc, HQ5.out]; rfl)
              have hlv2 : V5.length + 1 ≤ 2000 := hlv
              have hlp2 : Q5.length + 2 ≤ 2000 := hlp
              have VB := Lib.hid (fun w => q7verb_any 3 w)
              simp only [show verbV 3 = 3 from rfl] at VB
              go_wp2_with fail
              refine (VB.out _).mono ?_
              rintro e w6 ⟨rfl, h6⟩
              have hJd := (HJ.out.after h6).drew
              have hXd := (HX.out.after h6).drew
              have t8 := (h6.cell (p := ⟨T, 8, none⟩) (by dsimp only; omega)).trans s8
              have hs6 : T < w6.drew.heap.size := Nat.lt_of_lt_of_le hsT h6.size
              have NW : Cor w6.drew w6.drew.heap.size (some ⟨T, 2, none⟩) [(c, d), (e, f)] := cor_at hs6 (fun i p hp => by
                have q : ∀ (j : Nat) (u : Value), w5.cell? ⟨T, j, none⟩ = some u → w6.drew.cell? ⟨T, j, none⟩ = some u := fun j u hu => (h6.cell (p := ⟨T, j, none⟩) (by dsimp only; omega)).trans hu
                match i, hp with
                | 0, hp => cases hp; exact ⟨q _ _ s2, q _ _ s3⟩
                | 1, hp => cases hp; exact ⟨q _ _ s4, q _ _ s5⟩
                | k + 2, hp => simp at hp)
              have LAY := Lib.hid (q7lay_any (w.heap.size + 1 + 1) A3 A4 c3 c4 V5 Q5 3 (some ⟨T, 2, none⟩) 2 3 [(c, d), (e, f)] w6.drew hJd.jp hJd.tb.sz rfl NW (fun h => by cases h) (fun ad e k => by cases e; exact HT1.out k.symm) (by omega) (by omega))
              have HJd := Lib.hid hJd
              have HXd := Lib.hid hXd
              have k0 := (hJd.tb.c0 : w6.cell? _ = _); have k1 := (hJd.tb.c1 : w6.cell? _ = _)
              clear hJd hXd NW s2 s3 s4 s5 s6 s7 s8 h6
              go_wp2_with fail
              go_region_law (go_simp; go_at_call 38; refine (LAY.out).mono ?_; rintro e w7 ⟨a1, d1, a2, d2, rfl, jp, kp, hb7⟩; have ky := HJd.out.tb.step hb7; have y0 := ky.c0; have y1 := ky.c1; have z0 := ky.f0; have z1 := ky.f1)
              all_goals
                have hend := HJd.out.laid jp hb7
                have hXe := HXd.out.laid (u0 := .slice a1 (V5.length + 1) d1) (u1 := .slice a2 (Q5.length + 2) d2) kp (show w.heap.size + 1 ≠ S by omega)
                rw [HV2.out, HQ2.out] at hend
                clear jp kp hb7 ky
                go_wp2
                go_roundw
                case rel => exact ⟨j + 1, _, _, by go_num, by omega, hend, hXe⟩
                case measure => simp [intOf]; omega

            · have HV2 := Lib.hid (show V5 ++ [4] = V ++ [1] ++ (sg.take (j + 1)).flatMap segVs by rw [HVA.out, ← List.append_assoc, HV5.out]; rfl)
              have HQ2 := Lib.hid (show Q5 ++ [(c, d), (e, f), (g, h)] = Q ++ [(sx, sy)] ++ (sg.take (j + 1)).flatMap segPs by rw [HVP.out, ← List.append_assoc, HQ5.out]; rfl)
              have hlv2 : V5.length + 1 ≤ 2000 := hlv
              have hlp2 : Q5.length + 3 ≤ 2000 := hlp
              have VB := Lib.hid (fun w => q7verb_any 4 w)
              simp only [show verbV 4 = 4 from rfl] at VB
              go_wp2_with fail
              refine (VB.out _).mono ?_
              rintro e w6 ⟨rfl, h6⟩
              have hJd := (HJ.out.after h6).drew
              have hXd := (HX.out.after h6).drew
              have t8 := (h6.cell (p := ⟨T, 8, none⟩) (by dsimp only; omega)).trans s8
              have hs6 : T < w6.drew.heap.size := Nat.lt_of_lt_of_le hsT h6.size
              have NW : Cor w6.drew w6.drew.heap.size (some ⟨T, 2, none⟩) [(c, d), (e, f), (g, h)] := cor_at hs6 (fun i p hp => by
                have q : ∀ (j : Nat) (u : Value), w5.cell? ⟨T, j, none⟩ = some u → w6.drew.cell? ⟨T, j, none⟩ = some u := fun j u hu => (h6.cell (p := ⟨T, j, none⟩) (by dsimp only; omega)).trans hu
                match i, hp with
                | 0, hp => cases hp; exact ⟨q _ _ s2, q _ _ s3⟩
                | 1, hp => cases hp; exact ⟨q _ _ s4, q _ _ s5⟩
                | 2, hp => cases hp; exact ⟨q _ _ s6, q _ _ s7⟩
                | k + 3, hp => simp at hp)
              have LAY := Lib.hid (q7lay_any (w.heap.size + 1 + 1) A3 A4 c3 c4 V5 Q5 4 (some ⟨T, 2, none⟩) 3 3 [(c, d), (e, f), (g, h)] w6.drew hJd.jp hJd.tb.sz rfl NW (fun h => by cases h) (fun ad e k => by cases e; exact HT1.out k.symm) (by omega) (by omega))
              have HJd := Lib.hid hJd
              have HXd := Lib.hid hXd
              have k0 := (hJd.tb.c0 : w6.cell? _ = _); have k1 := (hJd.tb.c1 : w6.cell? _ = _)
              clear hJd hXd NW s2 s3 s4 s5 s6 s7 s8 h6
              go_wp2_with fail
              go_region_law (go_simp; go_at_call 38; refine (LAY.out).mono ?_; rintro e w7 ⟨a1, d1, a2, d2, rfl, jp, kp, hb7⟩; have ky := HJd.out.tb.step hb7; have y0 := ky.c0; have y1 := ky.c1; have z0 := ky.f0; have z1 := ky.f1)
              all_goals
                have hend := HJd.out.laid jp hb7
                have hXe := HXd.out.laid (u0 := .slice a1 (V5.length + 1) d1) (u1 := .slice a2 (Q5.length + 3) d2) kp (show w.heap.size + 1 ≠ S by omega)
                rw [HV2.out, HQ2.out] at hend
                clear jp kp hb7 ky
                go_wp2
                go_roundw
                case rel => exact ⟨j + 1, _, _, by go_num, by omega, hend, hXe⟩
                case measure => simp [intOf]; omega
          · have F := Lib.hid (show segVs (((a, b), (c, d), (e, f), (g, h)), n) = [] ∧ segPs (((a, b), (c, d), (e, f), (g, h)), n) = [] from ⟨by unfold segVs; rw [if_neg (by dsimp only; omega)], by unfold segPs; rw [if_neg (by dsimp only; omega), if_neg (by dsimp only; omega), if_neg (by dsimp only; omega)]⟩)
            have HV2 := Lib.hid (show V5 = V ++ [1] ++ (sg.take (j + 1)).flatMap segVs by rw [HVA.out, F.out.1, List.append_nil, HV5.out])
            have HQ2 := Lib.hid (show Q5 = Q ++ [(sx, sy)] ++ (sg.take (j + 1)).flatMap segPs by rw [HVP.out, F.out.2, List.append_nil, HQ5.out])
            have VB0 := fun w => q7verb_any n w
            simp only [show verbV n = 0 by unfold verbV; rw [if_neg (by omega), if_neg (by omega), if_neg (by omega)]] at VB0
            have VB := Lib.hid VB0
            clear VB0
            go_wp2_with fail
            refine (VB.out _).mono ?_
            rintro e w6 ⟨rfl, h6⟩
            have hend := HJ.out.after h6
            have hXe := HX.out.after h6
            clear s2 s3 s4 s5 s6 s7 s8
            go_wp2
            go_roundw
            case rel => exact ⟨j + 1, _, _, by go_num, by omega, by rw [← HV2.out, ← HQ2.out]; exact hend, hXe⟩
            case measure => simp [intOf]; omega
        · obtain rfl : j = m := by omega
          have hm2 : sg.take j = sg := by rw [← HM.out, List.take_length]
          rw [hm2] at hJ hX
          obtain ⟨V6, hV6⟩ : ∃ V6, V ++ [1] ++ sg.flatMap segVs = V6 := ⟨_, rfl⟩
          obtain ⟨Q6, hQ6⟩ : ∃ Q6, Q ++ [(sx, sy)] ++ sg.flatMap segPs = Q6 := ⟨_, rfl⟩
          have hl6 : V6.length + (if cl then 1 else 0) ≤ 2000 := by rw [← hV6, List.length_append]; exact hVc
          have hl7 : Q6.length ≤ 2000 := by rw [← hQ6, List.length_append]; exact hQ1
          rw [hV6, hQ6] at hJ hX
          have HV6 := Lib.hid hV6
          have HQ6 := Lib.hid (show Q6 = joinPs (l.take (i + 1)) by rw [HPn.out, ← hQ6]; simp [subPs])
          have q1 : decide ((j : Int) < (j : Int)) = false := by simp
          have x3 := hX.c3
          clear hm2 hV6 hQ6
          cases cl with
          | false =>
            have HE1 := Lib.hid (show V6 = joinVs (l.take (i + 1)) by rw [HVn.out, ← HV6.out]; simp [subVs])
            go_wp2
            go_roundw
            case rel => exact ⟨i + 1, _, _, by go_num, by omega, by rw [← HE1.out, ← HQ6.out]; exact hJ⟩
            case measure => simp [intOf]; omega
          | true =>
            have HE1 := Lib.hid (show V6 ++ [5] = joinVs (l.take (i + 1)) by rw [HVn.out, ← HV6.out]; simp [subVs])
            simp only [if_true] at hl6
            have k0 := hJ.tb.c0; have k1 := hJ.tb.c1
            have LAY := Lib.hid (q7lay_any (w.heap.size + 1 + 1) A3 A4 c3 c4 V6 Q6 5 none 0 0 [] wr hJ.jp hJ.tb.sz rfl (fun h => absurd h (by simp)) (fun _ => rfl) (fun ad e => by cases e) (by omega) (by omega))
            have HJ := Lib.hid hJ
            clear hJ hX
            go_wp2_with fail
            refine (LAY.out).mono ?_
            rintro e w7 ⟨a1, d1, a2, d2, rfl, jp, kp, hb7⟩
            have ky := HJ.out.tb.step hb7
            have y0 := ky.c0; have y1 := ky.c1; have z0 := ky.f0; have z1 := ky.f1
            have hend := HJ.out.laid jp hb7
            rw [HE1.out, List.append_nil] at hend
            have hq : ∀ x va v, JS (w.heap.size + 1) (joinVs (l.take (i + 1))) Q6 w1 x va v → JS (w.heap.size + 1) (joinVs (l.take (i + 1))) (joinPs (l.take (i + 1))) w1 x va v := fun x va v h => by rw [← HQ6.out]; exact h
            have hend2 := hq _ _ _ hend
            clear hend hq
            clear jp kp hb7 ky k0 k1 x3
            go_wp2
            go_roundw
            case rel => exact ⟨i + 1, _, _, by go_num, by omega, hend2⟩
            case measure => simp [intOf]; omega
    · obtain rfl : i = L := by omega
      have hi2 : l.take i = l := by rw [← HL.out, List.take_length]
      rw [hi2] at hJ hcap hcap1
      have q1 : decide ((i : Int) < (i : Int)) = false := by simp
      obtain ⟨A1', k1, hva, hl1, hV1⟩ := vals_of_row hJ.rv
      obtain ⟨A2', k2, hvb, hl2, hC2, -⟩ := cor_of_row hJ.rp
      rw [List.length_map] at hva
      obtain ⟨rfl, -, rfl⟩ := Value.slice.inj hva
      obtain ⟨rfl, -, rfl⟩ := Value.slice.inj hvb
      have HF1 := Lib.hid (row_far hJ.rv (p := w.heap.size) (by omega))
      have HF2 := Lib.hid (row_far hJ.rp (p := w.heap.size) (by omega))
      have HV := Lib.hid hV1
      have HC := Lib.hid hC2
      have d0 := hJ.tb.c0
      have d1 := hJ.tb.c1
      have m5 := (hJ.tb.bel.cell (by (try dsimp only); omega)).trans c5
      have m6 := (hJ.tb.bel.cell (by (try dsimp only); omega)).trans c6
      have g5 := (hJ.tb.bel.frozen (by (try dsimp only); omega)).trans e5
      have g6 := (hJ.tb.bel.frozen (by (try dsimp only); omega)).trans e6
      have hbw := hb0.trans (hJ.tb.bel.mono (by omega))
      clear hi2 hl1 hl2 hV1 hC2 hJ c5 c6 e5 e6 hva hvb
      go_wp2
      refine bodyPost_ret (by simp [results, Tryd.results26, go_sem, *] <;> rfl) rfl ⟨A1, c1, A2, c2, rfl, ?_, ?_, ⟨⟨hcap1, hcap⟩, hmax⟩, ?_⟩
      · have h := (HV.out.set ⟨w.heap.size, 0, none⟩ (.slice A1 (joinVs l).length c1) HF1.out).set ⟨w.heap.size, 1, none⟩ (.slice A2 (joinPs l).length c2) HF1.out
        simpa [World.setCell] using h
      · have h := (HC.out.set ⟨w.heap.size, 0, none⟩ (.slice A1 (joinVs l).length c1) HF2.out).set ⟨w.heap.size, 1, none⟩ (.slice A2 (joinPs l).length c2) HF2.out
        simpa [World.setCell] using h
      · exact (hbw.setCell (Nat.le_refl _) _).setCell (Nat.le_refl _) _
end Go.Proofs.YtalgmnnimfenpaaDoor
