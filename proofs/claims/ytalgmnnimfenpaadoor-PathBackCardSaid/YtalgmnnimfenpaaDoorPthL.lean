/- A path with one verb more: the program's own way to lay it. -/
import Derived.Test.YtalgmnnimfenpaaDoorPthT
import Derived.Test.YtalgmnnimfenpaaDoorApp8
import Derived.Test.YtalgmnnimfenpaaDoorApp13
namespace Go.Proofs.YtalgmnnimfenpaaDoor
open Go.RowKit
set_option linter.unusedVariables false
set_option linter.unusedSimpArgs false
set_option maxHeartbeats 4000000
set_option maxRecDepth 100000

/-- A path in two rows of its own: its verbs, its points. -/
structure JP (B : Nat) (vs : List Int) (ps : List Pnt) (x : World) (va v : Value) : Prop where
  rv : x.ownsRow B 3 1 va vs.length (vs.map iV)
  rp : x.ownsRow B 44 2 v ps.length (flatP ps)
  ne : ∀ g, va.ownBlock = some g → v.ownBlock ≠ some g
theorem JP.alloc {B : Nat} {vs : List Int} {ps : List Pnt} {x : World} {va v : Value} (h : JP B vs ps x va v) (o : Obj) : JP B vs ps (x.alloc o) va v :=
  ⟨h.rv.alloc o, h.rp.alloc o, h.ne⟩
theorem JP.drew {B : Nat} {vs : List Int} {ps : List Pnt} {x : World} {va v : Value} (h : JP B vs ps x va v) : JP B vs ps x.drew va v :=
  ⟨h.rv.drew, h.rp.drew, h.ne⟩
/-- Blocks of the rows are the only ones that may have changed; they lie at their places, or anew. -/
structure Kept2 (w w' : World) (va v va' v' : Value) : Prop where
  block : ∀ k, k < w.heap.size → some k ≠ va.ownBlock → some k ≠ v.ownBlock → w'.heap[k]? = w.heap[k]?
  size : w.heap.size ≤ w'.heap.size
  own1 : va'.ownBlock = va.ownBlock ∨ ∃ k, w.heap.size ≤ k ∧ va'.ownBlock = some k
  own2 : v'.ownBlock = v.ownBlock ∨ ∃ k, w.heap.size ≤ k ∧ v'.ownBlock = some k
theorem Kept2.cell {w w' : World} {va v va' v' : Value} (h : Kept2 w w' va v va' v') {a : Addr} {u : Value} (hu : w.cell? a = some u) (h1 : some a.block ≠ va.ownBlock) (h2 : some a.block ≠ v.ownBlock) : w'.cell? a = some u := by
  have hl : a.block < w.heap.size := by
    unfold World.cell? at hu
    rcases Nat.lt_or_ge a.block w.heap.size with h1 | h1
    · exact h1
    · rw [Array.getElem?_eq_none h1] at hu; cases hu
  have := h.block a.block hl h1 h2
  rw [← hu]
  unfold World.cell?
  rw [this]

theorem news_of_cor {w : World} {B : Nat} {A : Option Addr} {l : List Pnt} (h : Cor w B A l) : ∀ (j : Nat) (u : Value), (flatP l)[j]? = some u → ∃ ad, A = some ad ∧ w.cell? (ad.add j) = some u := fun j u hu => by
  have hj := (List.getElem?_eq_some_iff.1 hu).1
  rw [flatP_length] at hj
  obtain ⟨ad, e, _⟩ := h (by omega)
  subst e
  exact ⟨ad, rfl, flat_cells h j u hu⟩
theorem lay_mid {B : Nat} {vs : List Int} {ps news : List Pnt} {va vb v7 : Value} {w w1 w7 : World} {o : Obj} {n : Nat} {xs : List Value} {A : Option Addr}
    (h : JP B vs ps w1 va vb) (hb0 : Below w.heap.size w w1) (hs : w.heap.size + 2 ≤ w1.heap.size) (h1 : ∀ g, va.ownBlock = some g → g < w.heap.size) (hn : Cor w w.heap.size A news) (hf : ∀ ad, A = some ad → some ad.block ≠ va.ownBlock)
    (ap : Appd (w1.alloc o).drew w7 B 3 1 va v7 n xs) :
    w7.ownsRow B 44 2 vb ps.length (flatP ps) ∧ Cor w7 w.heap.size A news ∧ (∀ g j u, w.heap.size ≤ g → w1.cell? ⟨g, j, none⟩ = some u → w7.cell? ⟨g, j, none⟩ = some u) ∧ (∀ g j, w.heap.size ≤ g → g < w1.heap.size → w7.frozen? ⟨g, j, none⟩ = w1.frozen? ⟨g, j, none⟩) ∧ w1.heap.size + 1 ≤ w7.heap.size := by
  have hz := ap.grew.size
  simp at hz
  have hf' : ∀ g, w.heap.size ≤ g → some g ≠ va.ownBlock := fun g hg e => by have := h1 g e.symm; omega
  refine ⟨((h.rp.alloc o).drew).kept ap.grew ?_, ?_, fun g j u hg hu => ap.grew.cell ((World.cell?_alloc_old _ _ _ ?_).trans hu) (hf' g hg), fun g j hg hlt => ?_, by omega⟩
  · cases hv : vb.ownBlock with
    | none => exact .inl rfl
    | some g => exact .inr (fun e => h.ne g e.symm hv)
  · intro hp
    obtain ⟨ad, e, hB, hc⟩ := (hn.step hb0) hp
    have hh : ad.block < w1.heap.size := by omega
    refine ⟨ad, e, hB, fun i p hi => ?_⟩
    obtain ⟨e1, e2⟩ := hc i p hi
    have hx := hf ad e
    refine ⟨ap.grew.cell ((World.cell?_alloc_old _ _ _ ?_).trans e1) (by rw [block_add]; exact hx), ap.grew.cell ((World.cell?_alloc_old _ _ _ ?_).trans e2) (by show some (ad.add (i * 2)).block ≠ _; rw [block_add]; exact hx)⟩
    · rw [block_add]; simp; omega
    · show (ad.add (i * 2)).block ≠ _; rw [block_add]; simp; omega
  · have hlt : g < w1.heap.size := by
      unfold World.cell? at hu
      rcases Nat.lt_or_ge g w1.heap.size with h1 | h1
      · exact h1
      · rw [Array.getElem?_eq_none h1] at hu; cases hu
    simp; omega
  · refine (World.frozen?_of_block (a := ⟨g, j, none⟩) (ap.grew.block g (by simp; omega) (hf' g hg))).trans ?_
    exact World.frozen?_of_block (a := ⟨g, j, none⟩) (Below.heap_alloc w1 o g hlt)

theorem lay_end {B L M : Nat} {vs : List Int} {ps news : List Pnt} {v : Int} {va vb v7 v8 : Value} {w w1 w7 w8 : World} {o : Obj} {m : Nat} {u0 u1 : Value} (hL : vs.length = L) (hM : ps.length = M) (hm : m = news.length)
    (h : JP B vs ps w1 va vb) (hb0 : Below w.heap.size w w1) (hB : B ≤ w.heap.size) (hs : w.heap.size + 2 ≤ w1.heap.size) (h1 : ∀ g, va.ownBlock = some g → g < w.heap.size) (h2 : ∀ g, vb.ownBlock = some g → g < w.heap.size)
    (ap : Appd (w1.alloc o).drew w7 B 3 1 va v7 (L + 1) (vs.map iV ++ [.int .i64 v])) (aq : Appd w7 w8 B 44 2 vb v8 (M + m) (flatP ps ++ flatP news)) :
    JP B (vs ++ [v]) (ps ++ news) ((w8.setCell ⟨w.heap.size + 1, 0, none⟩ u0).setCell ⟨w.heap.size + 1, 1, none⟩ u1) v7 v8 ∧ Kept2 w ((w8.setCell ⟨w.heap.size + 1, 0, none⟩ u0).setCell ⟨w.heap.size + 1, 1, none⟩ u1) va vb v7 v8 ∧
    Below B w ((w8.setCell ⟨w.heap.size + 1, 0, none⟩ u0).setCell ⟨w.heap.size + 1, 1, none⟩ u1) := by
  subst hL
  subst hM
  subst hm
  have hz := ap.grew.size
  simp at hz
  have hz2 := aq.grew.size
  have o7 : v7.ownBlock = va.ownBlock ∨ v7.ownBlock = some (w1.heap.size + 1) := by
    rcases ap.own with e | e
    · exact .inl e
    · exact .inr (by rw [e]; simp)
  have o8 : v8.ownBlock = vb.ownBlock ∨ v8.ownBlock = some w7.heap.size := aq.own
  have n7 : v7.ownBlock ≠ some (w.heap.size + 1) := fun e => by
    rcases o7 with k | k
    · have := h1 _ (k.symm.trans e); omega
    · have := Option.some.inj (k.symm.trans e); omega
  have n8 : v8.ownBlock ≠ some (w.heap.size + 1) := fun e => by
    rcases o8 with k | k
    · have := h2 _ (k.symm.trans e); omega
    · have := Option.some.inj (k.symm.trans e); omega
  have n78 : ∀ g, v7.ownBlock = some g → v8.ownBlock ≠ some g := fun g e q => by
    have hg7 := (ap.row.lt g e).2
    rcases o8 with k | k
    · rcases o7 with k' | k'
      · exact h.ne g (k'.symm.trans e) (k.symm.trans q)
      · have := h2 g (k.symm.trans q); have := Option.some.inj (k'.symm.trans e); omega
    · have := Option.some.inj (k.symm.trans q); omega
  have n7b : v7.ownBlock = none ∨ v7.ownBlock ≠ vb.ownBlock := by
    cases hv : v7.ownBlock with
    | none => exact .inl rfl
    | some g => exact .inr (fun e => by
        rcases o7 with k | k
        · exact h.ne g (k.symm.trans hv) e.symm
        · have := h2 g e.symm; have := Option.some.inj (k.symm.trans hv); omega)
  have r7 := ap.row.kept aq.grew n7b
  have r8 := aq.row
  have st : ∀ (y : World) (e : TypeId) (k : Nat) (x : Value) (n : Nat) (xs : List Value) (j : Nat) (u : Value), y.ownsRow B e k x n xs → x.ownBlock ≠ some (w.heap.size + 1) → (y.setCell ⟨w.heap.size + 1, j, none⟩ u).ownsRow B e k x n xs := fun y e k x n xs j u hy hx =>
    hy.kept (grown_set7 y ⟨w.heap.size + 1, j, none⟩ u) (.inr hx)
  have r7' := st _ _ _ _ _ _ 1 u1 (st _ _ _ _ _ _ 0 u0 r7 n7) n7
  have r8' := st _ _ _ _ _ _ 1 u1 (st _ _ _ _ _ _ 0 u0 r8 n8) n8
  refine ⟨⟨?_, ?_, n78⟩, ⟨fun k hk e1 e2 => ?_, ?_, ?_, ?_⟩, ?_⟩
  · rw [List.length_append, List.map_append]; exact r7'
  · have hf : flatP ps ++ flatP news = flatP (ps ++ news) := by unfold flatP; simp
    rw [List.length_append, ← hf]; exact r8'
  · have b1 := (grown_set7 (w8.setCell ⟨w.heap.size + 1, 0, none⟩ u0) ⟨w.heap.size + 1, 1, none⟩ u1).block k (by simp [World.setCell]; omega) (fun e => by have := Option.some.inj e; dsimp only at this; omega)
    have b2 := (grown_set7 w8 ⟨w.heap.size + 1, 0, none⟩ u0).block k (by omega) (fun e => by have := Option.some.inj e; dsimp only at this; omega)
    have b3 := aq.grew.block k (by omega) e2
    have b4 := ap.grew.block k (by simp; omega) e1
    have b5 := Below.heap_alloc w1 o k (show k < w1.heap.size by omega)
    have b6 := hb0.block k hk
    exact b1.trans (b2.trans (b3.trans (b4.trans (Eq.trans b5 b6))))
  · simp [World.setCell]; omega
  · rcases o7 with k | k
    · exact .inl k
    · exact .inr ⟨_, by omega, k⟩
  · rcases o8 with k | k
    · exact .inl k
    · exact .inr ⟨_, by omega, k⟩
  · have hb7 : Below B w w7 := ((((hb0.mono hB).alloc (by omega) o)).drew).grown ap.grew (by simp; omega) (ownsRow_ge h.rv)
    have hb8 := hb7.grown aq.grew (by omega) (ownsRow_ge h.rp)
    exact (hb8.setCell (by dsimp only; omega) _).setCell (by dsimp only; omega) _

theorem q7lay_any (B : Nat) (A1 A2 : Option Addr) (c1 c2 : Nat) (vs : List Int) (ps : List Pnt) (v : Int) (A : Option Addr) (m c : Nat) (news : List Pnt) (w : World)
    (h : JP B vs ps w (.slice A1 vs.length c1) (.slice A2 ps.length c2)) (hB : B ≤ w.heap.size) (hm : m = news.length) (hn : Cor w w.heap.size A news) (hA : A = none → c = 0)
    (hf : ∀ ad, A = some ad → some ad.block ≠ (Value.slice A1 vs.length c1).ownBlock) (l1 : vs.length ≤ 1000000) (l2 : ps.length + m ≤ 1000000) :
    Calls Tryd.prog 38 #[PathA A1 vs.length c1 A2 ps.length c2, .int .i64 v, .slice A m c] w fun e w' => ∃ a1 d1 a2 d2, e = .returned (PathA a1 (vs.length + 1) d1 a2 (ps.length + m) d2) ∧
      JP B (vs ++ [v]) (ps ++ news) w' (.slice a1 (vs.length + 1) d1) (.slice a2 (ps.length + m) d2) ∧ Kept2 w w' (.slice A1 vs.length c1) (.slice A2 ps.length c2) (.slice a1 (vs.length + 1) d1) (.slice a2 (ps.length + m) d2) ∧ Below B w w' := by
  obtain ⟨i0, ki, kz0, kz1, kz2⟩ := info_parts info_i
  obtain ⟨i1, hi, hz0, hz1, hz2⟩ := info_parts info_pt
  obtain ⟨L, hL⟩ : ∃ L, vs.length = L := ⟨_, rfl⟩
  obtain ⟨M, hM⟩ : ∃ M, ps.length = M := ⟨_, rfl⟩
  have h' := h
  have HRV := h'.rv; have HRP := h'.rp; have HNE := h'.ne
  have hlt1 := fun g hg => (HRV.lt g hg).2
  have hlt2 := fun g hg => (HRP.lt g hg).2
  rw [hL] at HRV HNE l1 hf hlt1
  rw [hM] at HRP HNE l2 hlt2
  rw [hL, hM]
  have H := Lib.hid h
  have HN := Lib.hid hn
  have HL := Lib.hid hL
  have HM := Lib.hid hM
  have RV := Lib.hid HRV; have RP := Lib.hid HRP; have NE := Lib.hid HNE
  have HA1 := Lib.hid hA; have HF := Lib.hid hf
  have HLT1 := Lib.hid hlt1; have HLT2 := Lib.hid hlt2
  clear h' h hn hL hM HRV HRP HNE hA hf hlt1 hlt2
  go_enter Tryd.func38, Tryd.ntmps38
  go_upto_region 1 with fail
  refine any_gen (fun z => ((z.cell? ⟨w.heap.size, 0, none⟩ = some (.slice A1 L c1) ∧ z.cell? ⟨w.heap.size, 1, none⟩ = some (.slice A2 M c2)) ∧ (z.cell? ⟨w.heap.size + 1, 0, none⟩ = some (.slice none 0 0) ∧ z.cell? ⟨w.heap.size + 1, 1, none⟩ = some (.slice none 0 0) ∧ z.frozen? ⟨w.heap.size + 1, 0, none⟩ = false ∧ z.frozen? ⟨w.heap.size + 1, 1, none⟩ = false)) ∧ w.heap.size + 2 ≤ z.heap.size ∧ Below w.heap.size w z ∧ JP B vs ps z (.slice A1 L c1) (.slice A2 M c2)) ⟨⟨⟨by simp [go_sem], by simp [go_sem]⟩, by simp [go_sem], by simp [go_sem], by simp, by simp⟩, by simp, ((Below.refl _ _).alloc (Nat.le_refl _) _).alloc (by simp) _, ?jp⟩ ?_
  case jp =>
    have := (H.out.alloc (.cells #[.slice A1 vs.length c1, .slice A2 ps.length c2] 25)).alloc (.cells #[.slice none 0 0, .slice none 0 0] 25)
    rw [HL.out, HM.out] at this
    exact this
  rintro w1 ⟨⟨⟨k0, k1⟩, r0, r1, f0, f1⟩, hs, hb0, hjp⟩
  have MID := Lib.hid (fun (w7 : World) (v7 : Value) (n : Nat) (xs : List Value) (ap : Appd (w1.alloc (.cells #[.int .i64 v] 3)).drew w7 B 3 1 (.slice A1 L c1) v7 n xs) => lay_mid hjp hb0 hs HLT1.out HN.out HF.out ap)
  have RVA := Lib.hid (show (w1.alloc (.cells #[.int .i64 v] 3)).drew.ownsRow B 3 1 (.slice A1 L c1) L (vs.map iV) from (by have h := (hjp.rv.alloc (.cells #[.int .i64 v] 3)).drew; rw [HL.out] at h; exact h))
  have NW := Lib.hid (show ∀ (j : Nat) (u : Value), ([.int .i64 v] : List Value)[j]? = some u → ∃ ad, (some ⟨w1.heap.size, 0, none⟩ : Option Addr) = some ad ∧ (w1.alloc (.cells #[.int .i64 v] 3)).drew.cell? (ad.add j) = some u from fun j u hu => ⟨_, rfl, World.news_of_block (cs := #[.int .i64 v]) (t := 3) (fr := (0, 0)) (heap_alloc_new w1 _) j u hu⟩)
  have FL := Lib.hid (show (flatP news).length = m * 2 by rw [flatP_length, hm])
  have HJP := Lib.hid hjp
  have RPM := Lib.hid (fun (x : World) (h : x.ownsRow B 44 2 (.slice A2 M c2) ps.length (flatP ps)) => (show x.ownsRow B 44 2 (.slice A2 M c2) M (flatP ps) by rw [HM.out] at h; exact h))
  have ca0 : ∀ o : Obj, (w1.alloc o).cell? ⟨w.heap.size, 0, none⟩ = some (.slice A1 L c1) := fun o => (World.cell?_alloc_old _ _ _ (by simp; omega)).trans k0
  have ca1 : ∀ o : Obj, (w1.alloc o).cell? ⟨w.heap.size, 1, none⟩ = some (.slice A2 M c2) := fun o => (World.cell?_alloc_old _ _ _ (by simp; omega)).trans k1
  have ND := Lib.hid (show ∀ g, w.heap.size ≤ g → some g ≠ (Value.slice A2 M c2).ownBlock from fun g hg e => by have := HLT2.out g e.symm; omega)
  have FZ := Lib.hid (fun (x y : World) (j : Nat) (hlt : w.heap.size + 1 < x.heap.size) (hg : x.grownBy y (Value.slice A2 M c2).ownBlock) => (show y.frozen? ⟨w.heap.size + 1, j, none⟩ = x.frozen? ⟨w.heap.size + 1, j, none⟩ from World.frozen?_of_block (a := ⟨w.heap.size + 1, j, none⟩) (hg.block _ hlt (ND.out _ (Nat.le_succ _)))))
  have EN := Lib.hid (fun (w7 w8 : World) (v7 v8 : Value) (ap : Appd (w1.alloc (.cells #[.int .i64 v] 3)).drew w7 B 3 1 (.slice A1 L c1) v7 (L + 1) (vs.map iV ++ [.int .i64 v])) (aq : Appd w7 w8 B 44 2 (.slice A2 M c2) v8 (M + m) (flatP ps ++ flatP news)) => lay_end (u0 := v7) (u1 := v8) HL.out HM.out hm hjp hb0 hB hs HLT1.out HLT2.out ap aq)
  clear hjp hm
  go_region_law (first | (refine step_append_full (by rfl) _ _ (by rfl) B i0 _ 1 8 und_is und_is ki kz0 kz1 kz2 rfl (by omega) (.slice A1 L c1) L (vs.map iV) (by rfl) RVA.out (some ⟨w1.heap.size, 0, none⟩) 1 1 [.int .i64 v] (by rfl) (by rfl) NW.out (by simp [Value.oneCell']) (by simp) (by simp [maxLen]; omega) (by omega) (by simp; omega) ?_; intro a7 c7 w7 ap7; obtain ⟨rp7, nw7, ce7, fr7, sz7⟩ := MID.out _ _ _ _ ap7; have x1 := ce7 _ _ _ (Nat.le_refl _) k1; have s0 := ce7 _ _ _ (Nat.le_succ _) r0; have s1 := ce7 _ _ _ (Nat.le_succ _) r1; have AP := Lib.hid ap7; have RP7 := Lib.hid (RPM.out _ rp7); have NW7 := Lib.hid (news_of_cor nw7); have g0 := (fr7 (w.heap.size + 1) 0 (by omega) (by omega)).trans f0; have g1 := (fr7 (w.heap.size + 1) 1 (by omega) (by omega)).trans f1; clear ap7 rp7 nw7 ce7 fr7) | (refine step_append_full (by rfl) _ _ (by rfl) B i1 _ 2 16 und_pt und_pt hi hz0 hz1 hz2 rfl (by omega) (.slice A2 M c2) M (flatP ps) (by rfl) RP7.out A m c (flatP news) (by rfl) FL.out NW7.out (flat_one news) HA1.out (by simp [maxLen]; omega) (by omega) (by omega) ?_; intro a8 c8 w8 ap8; have s0 := ap8.grew.cell s0 (ND.out _ (Nat.le_succ _)); have s1 := ap8.grew.cell s1 (ND.out _ (Nat.le_succ _)); have g0 := (FZ.out _ _ _ (by omega) ap8.grew).trans g0; have g1 := (FZ.out _ _ _ (by omega) ap8.grew).trans g1))
  all_goals
    have hend := Lib.hid (EN.out _ _ _ _ AP.out ap8)
    clear ap8
    go_wp2
    refine bodyPost_ret (by simp [results, Tryd.results38, go_sem, *] <;> rfl) rfl ⟨a7, c7, a8, c8, rfl, hend.out.1, hend.out.2.1, hend.out.2.2⟩
end Go.Proofs.YtalgmnnimfenpaaDoor
