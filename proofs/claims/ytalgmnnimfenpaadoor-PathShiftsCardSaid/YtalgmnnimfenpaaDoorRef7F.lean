/- A path that is shifted: the document's own answer. -/
import Derived.Test.YtalgmnnimfenpaaDoorApp7
import Derived.Test.YtalgmnnimfenpaaDoorRef7D
import Derived.Deep.RegionLaw
namespace Go.Proofs.YtalgmnnimfenpaaDoor
open Go.RowKit
set_option linter.unusedVariables false
set_option linter.unusedSimpArgs false
set_option maxHeartbeats 4000000
set_option maxRecDepth 100000

theorem info_i : (Tryd.prog.info? 3).map (fun i => (i.zero, i.size, i.bytes)) = some (some (.int .i64 0), 1, 8) := by kernel_rfl
theorem und_is : Tryd.prog.underlying 22 = some (.slice 3) := by kernel_rfl
theorem ints_news {w : World} {B : Nat} {A : Option Addr} {vs : List Int} (h : Vals w B A (vs.map iV)) : ∀ (j : Nat) (u : Value), (vs.map iV)[j]? = some u → ∃ ad, A = some ad ∧ w.cell? (ad.add j) = some u := fun j u hu => by
  obtain ⟨ad, e, _, hc⟩ := h.at_ hu
  exact ⟨ad, e, hc⟩
theorem ints_one (vs : List Int) : ∀ u ∈ vs.map iV, u.oneCell' = true := fun u hu => by
  obtain ⟨v, _, rfl⟩ := List.mem_map.1 hu; rfl

/-- A struct of two slices at block G: its first cell, its second one; what is older is as it was. -/
structure TwoB (G : Nat) (va v : Value) (w x : World) : Prop where
  c0 : x.cell? ⟨G, 0, none⟩ = some va
  c1 : x.cell? ⟨G, 1, none⟩ = some v
  f0 : x.frozen? ⟨G, 0, none⟩ = false
  f1 : x.frozen? ⟨G, 1, none⟩ = false
  bel : Below G w x
  sz : G + 1 ≤ x.heap.size
theorem TwoB.step {G : Nat} {va v : Value} {w x x' : World} (h : TwoB G va v w x) (hb : Below (G + 1) x x') : TwoB G va v w x' :=
  ⟨(hb.cell (Nat.lt_succ_self _)).trans h.c0, (hb.cell (Nat.lt_succ_self _)).trans h.c1, (hb.frozen (Nat.lt_succ_self _)).trans h.f0, (hb.frozen (Nat.lt_succ_self _)).trans h.f1, h.bel.trans (hb.mono (Nat.le_succ _)), Nat.le_trans h.sz hb.size⟩
theorem TwoB.drew {G : Nat} {va v : Value} {w x : World} (h : TwoB G va v w x) : TwoB G va v w x.drew := ⟨h.c0, h.c1, h.f0, h.f1, h.bel.drew, h.sz⟩
theorem TwoB.put1 {G : Nat} {va v : Value} {w x : World} (h : TwoB G va v w x) (v' : Value) : TwoB G va v' w (x.setCell ⟨G, 1, none⟩ v') :=
  ⟨(World.cell?_setCell_other _ _ _ _ (by simp)).trans h.c0, World.cell?_setCell_same _ _ _ h.c1, by rw [World.frozen?_setCell]; exact h.f0, by rw [World.frozen?_setCell]; exact h.f1, h.bel.setCell (Nat.le_refl _) _, by simpa [World.setCell] using h.sz⟩
theorem TwoB.put0 {G : Nat} {va v : Value} {w x : World} (h : TwoB G va v w x) (v' : Value) : TwoB G v' v w (x.setCell ⟨G, 0, none⟩ v') :=
  ⟨World.cell?_setCell_same _ _ _ h.c0, (World.cell?_setCell_other _ _ _ _ (by simp)).trans h.c1, by rw [World.frozen?_setCell]; exact h.f0, by rw [World.frozen?_setCell]; exact h.f1, h.bel.setCell (Nat.le_refl _) _, by simpa [World.setCell] using h.sz⟩
theorem ownsRow_set {w : World} {B : Nat} {e : TypeId} {k : Nat} {v : Value} {n : Nat} {xs : List Value} (h : w.ownsRow (B + 1) e k v n xs) (j : Nat) (u : Value) : (w.setCell ⟨B, j, none⟩ u).ownsRow (B + 1) e k v n xs :=
  ownsRow_setCell_below h (a := ⟨B, j, none⟩) (Nat.lt_succ_self _) u

theorem r7shift_any (A B : Option Addr) (ca cb : Nat) (vs : List Int) (ps : List Pnt) (s t : Int) (w : World) (h1 : Vals w w.heap.size A (vs.map iV)) (h2 : Cor w w.heap.size B ps) (hA : A = none → ca = 0)
    (l1 : vs.length ≤ 2000) (l2 : ps.length ≤ 2000) (hn : ∀ p ∈ ps, (-1073741824 ≤ p.1 ∧ p.1 ≤ 1073741824) ∧ (-1073741824 ≤ p.2 ∧ p.2 ≤ 1073741824)) (hs : -1073741824 ≤ s ∧ s ≤ 1073741824) (ht : -1073741824 ≤ t ∧ t ≤ 1073741824) :
    Calls Tryd.prog 29 #[PathA A vs.length ca B ps.length cb, P2 s t] w fun e w' => ∃ A' c' B' d', e = .returned (PathA A' vs.length c' B' ps.length d') ∧ Vals w' w'.heap.size A' (vs.map iV) ∧ Cor w' w'.heap.size B' (ps.map (shP (s, t))) ∧ Below w.heap.size w w' := by
  obtain ⟨i0, ki, kz0, kz1, kz2⟩ := info_parts info_i
  obtain ⟨i1, hi, hz0, hz1, hz2⟩ := info_parts info_pt
  have H1 := Lib.hid h1
  have H2 := Lib.hid h2
  have HA := Lib.hid hA
  have HN := Lib.hid hn
  clear h1 h2 hA hn
  obtain ⟨L, hL⟩ : ∃ L, vs.length = L := ⟨_, rfl⟩
  obtain ⟨M, hM⟩ : ∃ M, ps.length = M := ⟨_, rfl⟩
  rw [hL] at l1 ⊢
  rw [hM] at l2 ⊢
  have HL := Lib.hid hL
  have HM := Lib.hid hM
  clear hL hM
  go_enter Tryd.func29, Tryd.ntmps29
  go_upto_region 1 with fail
  refine any_gen (fun z => (z.cell? ⟨w.heap.size, 0, none⟩ = some (.slice A L ca) ∧ z.cell? ⟨w.heap.size, 1, none⟩ = some (.slice B M cb) ∧ z.cell? ⟨w.heap.size + 1, 0, none⟩ = some (.int .i64 s) ∧ z.cell? ⟨w.heap.size + 1, 1, none⟩ = some (.int .i64 t) ∧ (z.cell? ⟨w.heap.size + 1 + 1, 0, none⟩ = some (.slice none 0 0) ∧ z.cell? ⟨w.heap.size + 1 + 1, 1, none⟩ = some (.slice none 0 0) ∧ z.frozen? ⟨w.heap.size + 1 + 1, 0, none⟩ = false ∧ z.frozen? ⟨w.heap.size + 1 + 1, 1, none⟩ = false)) ∧ w.heap.size + 1 + 1 + 1 ≤ z.heap.size ∧ Below w.heap.size w z) ⟨⟨by simp [go_sem], by simp [go_sem], by simp [go_sem], by simp [go_sem], by simp [go_sem], by simp [go_sem], by simp [go_sem], by simp [go_sem]⟩, by simp, (((Below.refl _ _).alloc (Nat.le_refl _) _).alloc (by simp) _).alloc (by simp; omega) _⟩ ?_
  rintro w1 ⟨⟨c1, c2, c3, c4, c5, c6, f5, f6⟩, hs1, hb0⟩
  have h0 := World.ownsRow_made (size := 1) (e := 3) (base := w1.heap.size) w1 #[] 0 (Nat.le_refl _) (Nat.zero_le _) rfl
  have HV := Lib.hid (H1.out.step hb0)
  have FL : (vs.map iV).length = L * 1 := by rw [List.length_map, HL.out]; omega
  have hw1 : w.heap.size < w1.heap.size := by omega
  iterate 10 (first | go_step | go_simp)
  refine wpList_append_vals _ rfl _ _ rfl w1.heap.size i0 _ 1 8 und_is und_is ki kz0 kz1 kz2 rfl (by omega) _ 0 [] (by rfl) h0 A L ca (vs.map iV) (by rfl) FL (ints_news (HV.out.step ((Below.refl _ _).alloc (by omega) _))) (ints_one vs) HA.out (by simp [maxLen]; omega) (by omega) (by simp) ?_
  intro v3 w3 hv3 hb3 _
  rw [Nat.zero_add, List.nil_append] at hv3
  have hbA := (show Below w1.heap.size w1 _ from (Below.refl _ _).alloc (Nat.le_refl _) _).trans hb3
  obtain ⟨A3, c3', rfl, hA3, hvals3⟩ : ∃ A3 c3, v3 = .slice A3 L c3 ∧ L = L ∧ Vals w3 w3.heap.size A3 (vs.map iV) := by
    obtain ⟨A3, c3, e, hl, hv⟩ := vals_of_row hv3
    exact ⟨A3, c3, by rw [e, List.length_map, HL.out], rfl, hv⟩
  have d1 := (hbA.cell (by (try dsimp only); omega)).trans c1
  have d2 := (hbA.cell (by (try dsimp only); omega)).trans c2
  have d3 := (hbA.cell (by (try dsimp only); omega)).trans c3
  have d4 := (hbA.cell (by (try dsimp only); omega)).trans c4
  have d5 := (hbA.cell (by (try dsimp only); omega)).trans c5
  have d6 := (hbA.cell (by (try dsimp only); omega)).trans c6
  have e5 := (hbA.frozen (by (try dsimp only); omega)).trans f5
  have e6 := (hbA.frozen (by (try dsimp only); omega)).trans f6
  have hbW := hb0.trans (hbA.mono (by omega))
  have hs3 := hbA.size
  clear c1 c2 c3 c4 c5 c6 f5 f6 hb3 h0 hA3
  obtain ⟨G, hG⟩ : ∃ G, w3.heap.size = G := ⟨_, rfl⟩
  have HT0 : TwoB G (.slice A3 L c3') (.slice none 0 0) w3 (w3.alloc (Obj.cells #[.slice A3 L c3', .slice none 0 0] 35)) := by
    subst hG; exact ⟨by simp, by simp, by simp, by simp, (Below.refl _ _).alloc (Nat.le_refl _) _, by simp⟩
  have HTB := Lib.hid HT0
  have HW3 := Lib.hid hvals3
  have HF3 := Lib.hid (row_far hv3 (p := w.heap.size + 1 + 1) (by omega))
  clear HT0 hvals3 hv3
  go_wp2
  have hG1 : w3.heap.size ≤ G ∧ G ≤ w3.heap.size := by omega
  clear hG
  go_loopw [6] (fun s6 wr => ∃ (k : Nat) (v : Value), s6 = .int .i64 k ∧ k ≤ M ∧ TwoB G (.slice A3 L c3') v w3 wr ∧ wr.ownsRow (G + 1) 44 2 v k (flatP ((ps.map (shP (s, t))).take k))) (fun s6 _ => M - (intOf s6).toNat)
  case atStart => exact ⟨0, _, rfl, Nat.zero_le _, HTB.out, World.ownsRow_nil _ _ _ _⟩
  case round =>
    obtain ⟨k, v, rfl, hk, hT, hown⟩ := hrel
    by_cases hlt : k < M
    · obtain ⟨⟨x, y⟩, hp⟩ : ∃ p, ps[k]? = some p := ⟨_, List.getElem?_eq_getElem (by rw [HM.out]; exact hlt)⟩
      have hbw := hbW.trans (hT.bel.mono (by omega))
      obtain ⟨ad, rfl, hB, g1, g2⟩ := (H2.out.step hbw).at_ hp
      dsimp only at g1 g2
      obtain ⟨nx1, ny1⟩ := HN.out _ (List.mem_of_getElem? hp)
      have HF := Lib.hid (show flatP ((ps.map (shP (s, t))).take (k + 1)) = flatP ((ps.map (shP (s, t))).take k) ++ [.int .i64 (x + s), .int .i64 (y + t)] by
        rw [List.take_add_one, List.getElem?_map, hp]; exact flat_snoc _ (x + s, y + t))
      have AD := Lib.hid (fun w => r4add_any x y s t w (by omega) (by omega) (by omega) (by omega))
      obtain ⟨pf, hpf⟩ : ∃ pf, flatP ((ps.map (shP (s, t))).take k) = pf := ⟨_, rfl⟩
      rw [hpf] at hown HF
      have m2 := (hT.bel.cell (by (try dsimp only); omega)).trans d2
      have m3 := (hT.bel.cell (by (try dsimp only); omega)).trans d3
      have m4 := (hT.bel.cell (by (try dsimp only); omega)).trans d4
      have p1 : decide ((k : Int) < (M : Int)) = true := by simp; omega
      have p2 : (0 : Int) ≤ (k : Int) := by omega
      have p3 : (k : Int) < (M : Int) := by omega
      have p4 : IntKind.i64.wrap ((k : Int) + 1) = (k : Int) + 1 := IntWalk.i64_in _ (by omega)
      have hBk : (ad.add (k * 2)).block < w.heap.size := by rw [block_add]; exact hB
      clear hp hpf d1 d2 d3 d4 d5 d6 e5 e6 nx1 ny1
      go_upto_region 5 with fail
      have ky := hT.drew
      have c1 := ky.c1
      have f1 := ky.f1
      have hownD := hown.drew
      go_region_law (first | (refine step_append_vals (by rfl) _ _ (by rfl) (G + 1) i1 _ 2 16 und_pt und_pt hi hz0 hz1 hz2 rfl (by omega) v k pf (by rfl) (hown1.alloc _) (some ⟨z.heap.size, 0, none⟩) 1 1 [.int .i64 (x + s), .int .i64 (y + t)] (by rfl) (by rfl) (fun j u hu => ⟨_, rfl, World.news_of_block (cs := #[.int .i64 (x + s), .int .i64 (y + t)]) (t := 44) (fr := (0, 0)) (heap_alloc_new z _) j u hu⟩) (by simp [Value.oneCell']) (by simp) (by simp [maxLen]; omega) (by omega) (by have := ky.sz; simp; omega) ?_; intro v9 w9 hown9 hb9 _; obtain ⟨g9, q9, rfl, -, -⟩ := hown9.form (Nat.succ_pos _); have ky := (ky.step ((Below.refl _ _).alloc ky.sz _)).step hb9; have c1 := ky.c1; have f1 := ky.f1) | (go_simp; go_at_call 30; refine (AD.out _).mono ?_; rintro e z ⟨rfl, hb⟩; have hown1 := ownsRow_after hownD hb; have ky := ky.step (hb.mono ky.sz); have c1 := ky.c1; have f1 := ky.f1; have ca : ∀ o : Obj, (z.alloc o).cell? ⟨G, 1, none⟩ = some v := fun o => (World.cell?_alloc_old _ _ _ (by have := ky.sz; simp; omega)).trans c1))
      all_goals
        have kz := ky.put1 (.slice (some ⟨g9, 0, none⟩) (k + 1) q9)
        have ho := ownsRow_set hown9 1 (.slice (some ⟨g9, 0, none⟩) (k + 1) q9)
        go_wp2
        go_roundw
        case rel => exact ⟨k + 1, _, by go_num, by omega, kz, by rw [HF.out]; exact ho⟩
        case measure => simp [intOf]; omega
    · obtain rfl : k = M := by omega
      have p1 : decide ((k : Int) < (k : Int)) = false := by simp
      have HMAP := Lib.hid (show (ps.map (shP (s, t))).take k = ps.map (shP (s, t)) by rw [List.take_of_length_le (by rw [List.length_map, HM.out]; exact Nat.le_refl _)])
      rw [HMAP.out] at hown
      obtain ⟨A9, q9, rfl, -, hcor, -⟩ := cor_of_row hown
      have HLN := Lib.hid (show (ps.map (shP (s, t))).length = k by rw [List.length_map, HM.out])
      rw [HLN.out] at hT
      have HCR := Lib.hid hcor
      have c0 := hT.c0
      have c1 := hT.c1
      have m2 := (hT.bel.cell (by (try dsimp only); omega)).trans d2
      have m5 := (hT.bel.cell (by (try dsimp only); omega)).trans d5
      have m6 := (hT.bel.cell (by (try dsimp only); omega)).trans d6
      have g5 := (hT.bel.frozen (by (try dsimp only); omega)).trans e5
      have g6 := (hT.bel.frozen (by (try dsimp only); omega)).trans e6
      have hbw := hbW.trans (hT.bel.mono (by omega))
      have HV9 := Lib.hid ((HW3.out.step (hT.bel.mono hG1.1)).more hT.bel.size)
      have HF9 := Lib.hid (row_far hown (p := w.heap.size + 1 + 1) (by omega))
      clear hcor hown d1 d2 d3 d4 d5 d6 e5 e6
      go_wp2
      refine bodyPost_ret (by simp [results, Tryd.results29, go_sem, *] <;> rfl) rfl ?_
      refine ⟨A3, c3', A9, q9, rfl, ?_, ?_, ?_⟩
      · have h := (HV9.out.set ⟨w.heap.size + 1 + 1, 0, none⟩ (.slice A3 L c3') HF3.out).set ⟨w.heap.size + 1 + 1, 1, none⟩ (.slice A9 k q9) HF3.out
        simpa [World.setCell] using h
      · have h := (HCR.out.set ⟨w.heap.size + 1 + 1, 0, none⟩ (.slice A3 L c3') HF9.out).set ⟨w.heap.size + 1 + 1, 1, none⟩ (.slice A9 k q9) HF9.out
        simpa [World.setCell] using h
      · exact (hbw.setCell (by simp; omega) _).setCell (by simp; omega) _
end Go.Proofs.YtalgmnnimfenpaaDoor
