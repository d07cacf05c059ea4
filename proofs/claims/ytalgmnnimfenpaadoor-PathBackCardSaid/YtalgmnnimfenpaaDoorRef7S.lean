/- Paths that are split: the document's own answer. -/
import Derived.Test.YtalgmnnimfenpaaDoorApp13
import Derived.Test.YtalgmnnimfenpaaDoorRef7B
import Derived.Test.YtalgmnnimfenpaaDoorRef7F
import Derived.Test.YtalgmnnimfenpaaDoorPathMore
namespace Go.Proofs.YtalgmnnimfenpaaDoor
open Go.RowKit
set_option linter.unusedVariables false
set_option linter.unusedSimpArgs false
set_option maxHeartbeats 40000000
set_option maxRecDepth 100000

/-- How far the splitting has come: the row of subpaths, by the verb that was last. -/
def SpSt (B g : Nat) (out : List SubV) (prev : Int) (x : World) (vo : Value) : Prop :=
  (prev = 5 ∧ ∃ cs, OutC B out x vo cs ∧ Clear g cs ∧ vo.ownBlock ≠ some g) ∨
  (∃ o p sg cs sv, out = o ++ [(p, sg, false)] ∧ SpS B o p sg x vo cs sv ∧ Clear g cs ∧ vo.ownBlock ≠ some g ∧ sv.ownBlock ≠ some g)
theorem SpSt.outC {B g : Nat} {out : List SubV} {prev : Int} {x : World} {vo : Value} (h : SpSt B g out prev x vo) : ∃ cs, OutC B out x vo cs ∧ Clear g cs ∧ vo.ownBlock ≠ some g := by
  rcases h with ⟨_, h⟩ | ⟨o, p, sg, cs, sv, rfl, h1, h2, h3, h4⟩
  · exact h
  · exact ⟨_, h1.out, h2.app (clear_four _ _ _ _ h4), h3⟩
theorem SpSt.open_ {B g : Nat} {out : List SubV} {prev : Int} {x : World} {vo : Value} (h : SpSt B g out prev x vo) (hp : prev ≠ 5) : ∃ o p sg cs sv, out = o ++ [(p, sg, false)] ∧ SpS B o p sg x vo cs sv ∧ Clear g cs ∧ vo.ownBlock ≠ some g ∧ sv.ownBlock ≠ some g := by
  rcases h with ⟨h, _⟩ | h
  · exact absurd h hp
  · exact h
/-- The loop's head. -/
def SpLoop (vs : List Int) (ps : List Pnt) (F : List SubV) (B g L M : Nat) (w2 : World) (s5 s7 s8 : Value) (wr : World) : Prop :=
  ∃ (i n : Nat) (out : List SubV) (at' : Pnt) (prev : Int), s8 = .int .i64 i ∧ s7 = .int .i64 n ∧ i ≤ L ∧ n ≤ M ∧ (chk prev (vs.drop i) = 0 ∧ needs (vs.drop i) = ((M : Int) - n) ∧ (runP (vs.drop i) (out, at', ps.drop n)).1 = F) ∧ SpSt B g out prev wr s5 ∧ AtB g B at' w2 wr ∧ (out.length ≤ i ∧ out.length ≤ n ∧ ∀ x ∈ out, x.2.1.length ≤ i)
theorem run_cons {vs : List Int} {i : Nat} {v : Int} (h : vs[i]? = some v) (s : StV) : runP (vs.drop i) s = runP (vs.drop (i + 1)) (stepP s v) := by
  rw [drop_at h]; rfl

/-- The first j of these points, the others zero. -/
def pick (l : List Pnt) (j m : Nat) : Pnt := if m < j then l.getD m zP else zP
/-- A box of one segment, in block g. -/
structure SegBox (g : Nat) (s : SegV) (w0 x : World) : Prop where
  c0 : x.cell? ⟨g, 0, none⟩ = some (.int .i64 s.1.1.1)
  c1 : x.cell? ⟨g, 1, none⟩ = some (.int .i64 s.1.1.2)
  c2 : x.cell? ⟨g, 2, none⟩ = some (.int .i64 s.1.2.1.1)
  c3 : x.cell? ⟨g, 3, none⟩ = some (.int .i64 s.1.2.1.2)
  c4 : x.cell? ⟨g, 4, none⟩ = some (.int .i64 s.1.2.2.1.1)
  c5 : x.cell? ⟨g, 5, none⟩ = some (.int .i64 s.1.2.2.1.2)
  c6 : x.cell? ⟨g, 6, none⟩ = some (.int .i64 s.1.2.2.2.1)
  c7 : x.cell? ⟨g, 7, none⟩ = some (.int .i64 s.1.2.2.2.2)
  c8 : x.cell? ⟨g, 8, none⟩ = some (.int .i64 s.2)
  fz : ∀ j, x.frozen? ⟨g, j, none⟩ = false
  bel : Below g w0 x
  sz : g < x.heap.size
theorem SegBox.put1 {g : Nat} {s : SegV} {w0 x : World} (h : SegBox g s w0 x) (q : Pnt) : SegBox g ((s.1.1, q, s.1.2.2.1, s.1.2.2.2), s.2) w0 ((x.setCell ⟨g, 2, none⟩ (.int .i64 q.1)).setCell ⟨g, 3, none⟩ (.int .i64 q.2)) :=
  ⟨(World.cell?_setCell_other _ _ _ _ (by simp)).trans ((World.cell?_setCell_other _ _ _ _ (by simp)).trans h.c0), (World.cell?_setCell_other _ _ _ _ (by simp)).trans ((World.cell?_setCell_other _ _ _ _ (by simp)).trans h.c1), (World.cell?_setCell_other _ _ _ _ (by simp)).trans (World.cell?_setCell_same _ _ _ h.c2), World.cell?_setCell_same _ _ _ ((World.cell?_setCell_other _ _ _ _ (by simp)).trans h.c3), (World.cell?_setCell_other _ _ _ _ (by simp)).trans ((World.cell?_setCell_other _ _ _ _ (by simp)).trans h.c4), (World.cell?_setCell_other _ _ _ _ (by simp)).trans ((World.cell?_setCell_other _ _ _ _ (by simp)).trans h.c5), (World.cell?_setCell_other _ _ _ _ (by simp)).trans ((World.cell?_setCell_other _ _ _ _ (by simp)).trans h.c6), (World.cell?_setCell_other _ _ _ _ (by simp)).trans ((World.cell?_setCell_other _ _ _ _ (by simp)).trans h.c7), (World.cell?_setCell_other _ _ _ _ (by simp)).trans ((World.cell?_setCell_other _ _ _ _ (by simp)).trans h.c8), fun j => by rw [World.frozen?_setCell, World.frozen?_setCell]; exact h.fz j, (h.bel.setCell (Nat.le_refl _) _).setCell (Nat.le_refl _) _, by simpa [World.setCell] using h.sz⟩
theorem SegBox.put2 {g : Nat} {s : SegV} {w0 x : World} (h : SegBox g s w0 x) (q : Pnt) : SegBox g ((s.1.1, s.1.2.1, q, s.1.2.2.2), s.2) w0 ((x.setCell ⟨g, 4, none⟩ (.int .i64 q.1)).setCell ⟨g, 5, none⟩ (.int .i64 q.2)) :=
  ⟨(World.cell?_setCell_other _ _ _ _ (by simp)).trans ((World.cell?_setCell_other _ _ _ _ (by simp)).trans h.c0), (World.cell?_setCell_other _ _ _ _ (by simp)).trans ((World.cell?_setCell_other _ _ _ _ (by simp)).trans h.c1), (World.cell?_setCell_other _ _ _ _ (by simp)).trans ((World.cell?_setCell_other _ _ _ _ (by simp)).trans h.c2), (World.cell?_setCell_other _ _ _ _ (by simp)).trans ((World.cell?_setCell_other _ _ _ _ (by simp)).trans h.c3), (World.cell?_setCell_other _ _ _ _ (by simp)).trans (World.cell?_setCell_same _ _ _ h.c4), World.cell?_setCell_same _ _ _ ((World.cell?_setCell_other _ _ _ _ (by simp)).trans h.c5), (World.cell?_setCell_other _ _ _ _ (by simp)).trans ((World.cell?_setCell_other _ _ _ _ (by simp)).trans h.c6), (World.cell?_setCell_other _ _ _ _ (by simp)).trans ((World.cell?_setCell_other _ _ _ _ (by simp)).trans h.c7), (World.cell?_setCell_other _ _ _ _ (by simp)).trans ((World.cell?_setCell_other _ _ _ _ (by simp)).trans h.c8), fun j => by rw [World.frozen?_setCell, World.frozen?_setCell]; exact h.fz j, (h.bel.setCell (Nat.le_refl _) _).setCell (Nat.le_refl _) _, by simpa [World.setCell] using h.sz⟩
theorem SegBox.put3 {g : Nat} {s : SegV} {w0 x : World} (h : SegBox g s w0 x) (q : Pnt) : SegBox g ((s.1.1, s.1.2.1, s.1.2.2.1, q), s.2) w0 ((x.setCell ⟨g, 6, none⟩ (.int .i64 q.1)).setCell ⟨g, 7, none⟩ (.int .i64 q.2)) :=
  ⟨(World.cell?_setCell_other _ _ _ _ (by simp)).trans ((World.cell?_setCell_other _ _ _ _ (by simp)).trans h.c0), (World.cell?_setCell_other _ _ _ _ (by simp)).trans ((World.cell?_setCell_other _ _ _ _ (by simp)).trans h.c1), (World.cell?_setCell_other _ _ _ _ (by simp)).trans ((World.cell?_setCell_other _ _ _ _ (by simp)).trans h.c2), (World.cell?_setCell_other _ _ _ _ (by simp)).trans ((World.cell?_setCell_other _ _ _ _ (by simp)).trans h.c3), (World.cell?_setCell_other _ _ _ _ (by simp)).trans ((World.cell?_setCell_other _ _ _ _ (by simp)).trans h.c4), (World.cell?_setCell_other _ _ _ _ (by simp)).trans ((World.cell?_setCell_other _ _ _ _ (by simp)).trans h.c5), (World.cell?_setCell_other _ _ _ _ (by simp)).trans (World.cell?_setCell_same _ _ _ h.c6), World.cell?_setCell_same _ _ _ ((World.cell?_setCell_other _ _ _ _ (by simp)).trans h.c7), (World.cell?_setCell_other _ _ _ _ (by simp)).trans ((World.cell?_setCell_other _ _ _ _ (by simp)).trans h.c8), fun j => by rw [World.frozen?_setCell, World.frozen?_setCell]; exact h.fz j, (h.bel.setCell (Nat.le_refl _) _).setCell (Nat.le_refl _) _, by simpa [World.setCell] using h.sz⟩

theorem row_news {w : World} {B : Nat} {e : TypeId} {k : Nat} {A : Option Addr} {n c m : Nat} {xs : List Value} (h : w.ownsRow B e k (.slice A n c) m xs) : ∀ (j : Nat) (u : Value), xs[j]? = some u → ∃ ad, A = some ad ∧ w.cell? (ad.add j) = some u := fun j u hu => by
  have hc := fun g hg => h.cells (g := g) hg j u hu
  obtain ⟨hl, ⟨hv, hn⟩ | ⟨g, cap, cur, hv, _⟩⟩ := h
  · have hx : xs = [] := List.eq_nil_of_length_eq_zero (by rw [hl, hn]; simp)
    rw [hx] at hu
    simp at hu
  · cases hv
    exact ⟨_, rfl, hc g rfl⟩
theorem flatG_one (l : List SegV) : ∀ u ∈ flatG l, u.oneCell' = true := fun u hu => by
  unfold flatG at hu
  obtain ⟨g, _, hg⟩ := List.mem_flatMap.1 hu
  simp only [segC, List.mem_cons, List.not_mem_nil, or_false] at hg
  rcases hg with rfl | rfl | rfl | rfl | rfl | rfl | rfl | rfl | rfl <;> rfl
theorem row_nil {w : World} {B : Nat} {e : TypeId} {k : Nat} {A : Option Addr} {n c m : Nat} {xs : List Value} (h : w.ownsRow B e k (.slice A n c) m xs) : A = none → c = 0 := fun hA => by
  subst hA
  obtain ⟨_, ⟨hv, _⟩ | ⟨g, cap, cur, hv, _⟩⟩ := h
  · cases hv; rfl
  · cases hv

theorem r7split_bad (A B : Option Addr) (cv cp : Nat) (vs : List Int) (ps : List Pnt) (w : World) (hr : Vals w w.heap.size A (vs.map iV)) (hq : Cor w w.heap.size B ps) (hl : vs.length ≤ 9223372036854775807) (hp : ps.length ≤ 9223372036854775807) (hc : pathE vs ps ≠ 0) :
    Calls Tryd.prog 12 #[PathA A vs.length cv B ps.length cp] w fun e w' => e = .returned (.tuple #[.slice none 0 0, .int .i64 (pathE vs ps)]) ∧ Below w.heap.size w w' := by
  have hra := (hr.step ((Below.refl _ w).alloc (Nat.le_refl _) (Obj.cells #[.slice A vs.length cv, .slice B ps.length cp] 35))).more (show w.heap.size ≤ (w.alloc (Obj.cells #[.slice A vs.length cv, .slice B ps.length cp] 35)).heap.size by simp)
  have hqa := (hq.step ((Below.refl _ w).alloc (Nat.le_refl _) (Obj.cells #[.slice A vs.length cv, .slice B ps.length cp] 35))).more (show w.heap.size ≤ (w.alloc (Obj.cells #[.slice A vs.length cv, .slice B ps.length cp] 35)).heap.size by simp)
  have C0 := r7check_any A B cv cp vs ps _ hra hqa hl hp
  obtain ⟨c, hcc⟩ : ∃ c, pathE vs ps = c := ⟨_, rfl⟩
  rw [hcc] at C0 hc ⊢
  have q1 : (c != 0) = true := by simpa using hc
  have CK := Lib.hid C0
  clear C0 hcc hra hqa hr hq hl hp
  go_enter Tryd.func12, Tryd.ntmps12
  go_wp2_with fail
  refine (CK.out).mono ?_
  rintro e w1 ⟨rfl, h1⟩
  have hb : Below w.heap.size w w1 := ((Below.refl _ _).alloc (Nat.le_refl _) _).trans (h1.mono (by simp))
  clear h1
  go_wp2
  go_ret2
  exact ⟨rfl, hb⟩

theorem r7split_good (A B : Option Addr) (cv cp : Nat) (vs : List Int) (ps : List Pnt) (w : World) (hr : Vals w w.heap.size A (vs.map iV)) (hq : Cor w w.heap.size B ps) (hp : ps.length ≤ 2000) (hcp : ps.length ≤ cp) (hcp2 : cp ≤ 9223372036854775807) (hc : pathE vs ps = 0) :
    Calls Tryd.prog 12 #[PathA A vs.length cv B ps.length cp] w fun e w' => ∃ A' c', e = .returned (.tuple #[.slice A' (splitV vs ps).length c', .int .i64 0]) ∧ Subs w' w'.heap.size A' (splitV vs ps) ∧ Below w.heap.size w w' := by
  obtain ⟨k1, k2, k3, k4⟩ := check_ok.1 hc
  obtain ⟨i0, ki, kz0, kz1, kz2⟩ := info_parts info_sg
  obtain ⟨i1, hi, hz0, hz1, hz2⟩ := info_parts info_sb
  have hra := (hr.step ((Below.refl _ w).alloc (Nat.le_refl _) (Obj.cells #[.slice A vs.length cv, .slice B ps.length cp] 35))).more (show w.heap.size ≤ (w.alloc (Obj.cells #[.slice A vs.length cv, .slice B ps.length cp] 35)).heap.size by simp)
  have hqa := (hq.step ((Below.refl _ w).alloc (Nat.le_refl _) (Obj.cells #[.slice A vs.length cv, .slice B ps.length cp] 35))).more (show w.heap.size ≤ (w.alloc (Obj.cells #[.slice A vs.length cv, .slice B ps.length cp] 35)).heap.size by simp)
  have C0 := r7check_any A B cv cp vs ps _ hra hqa (by omega) (by omega)
  have HR := Lib.hid hr
  have HQ := Lib.hid hq
  obtain ⟨F, hF⟩ : ∃ F, splitV vs ps = F := ⟨_, rfl⟩
  have HF0 := Lib.hid (show (runP (vs.drop 0) ([], zP, ps.drop 0)).1 = F from hF)
  obtain ⟨L, hL⟩ : ∃ L, vs.length = L := ⟨_, rfl⟩
  obtain ⟨M, hM⟩ : ∃ M, ps.length = M := ⟨_, rfl⟩
  rw [hc, hL, hM] at C0
  rw [hL, hM, hF]
  rw [hL] at k1
  rw [hM] at hp hcp k3
  have CK := Lib.hid C0
  have HL := Lib.hid hL
  have HM := Lib.hid hM
  have HK2 := Lib.hid k2
  have HK3 := Lib.hid k3
  clear C0 hra hqa hr hq hF hL hM k2 k3 k4 hc
  go_enter Tryd.func12, Tryd.ntmps12
  go_wp2_with fail
  refine (CK.out).mono ?_
  rintro e w1 ⟨rfl, h1⟩
  have z1 := h1.size
  simp at z1
  have d0 : w1.cell? ⟨w.heap.size, 0, none⟩ = some (.slice A L cv) := (h1.cell (p := ⟨w.heap.size, 0, none⟩) (by simp)).trans (by simp)
  have d1 : w1.cell? ⟨w.heap.size, 1, none⟩ = some (.slice B M cp) := (h1.cell (p := ⟨w.heap.size, 1, none⟩) (by simp)).trans (by simp)
  have hb1 : Below w.heap.size w w1 := ((Below.refl _ _).alloc (Nat.le_refl _) _).trans (h1.mono (by simp))
  clear h1
  have HO0 := Lib.hid (World.ownsRow_made (size := 4) (e := 69) (base := w1.heap.size) w1 #[] 0 (Nat.le_refl _) (Nat.zero_le _) rfl)
  go_upto_region 6 with fail
  refine any_gen (fun z => AtB (w1.heap.size + 1) w1.heap.size zP w1 z ∧ SpSt w1.heap.size (w1.heap.size + 1) [] 5 z (.slice (some ⟨w1.heap.size, 0, none⟩) 0 0)) ⟨⟨by simp [go_sem, zP], by simp [go_sem, zP], by simp, by simp, by repeat (first | exact Below.refl _ _ | refine below_dN ?_ _ | refine Below.setCell ?_ (by simp; try omega) _ | refine Below.alloc ?_ (by simp; try omega) _), by simp⟩, .inl ⟨rfl, [], ⟨?row, fun k x hx => by simp at hx⟩, fun u hu => by simp at hu, by simp [Value.ownBlock]⟩⟩ ?_
  case row => exact HO0.out.alloc _
  rintro w2 ⟨hat0, hst0⟩
  have HST0 := Lib.hid hst0
  have HAT0 := Lib.hid hat0
  have hs2 := hat0.sz
  clear hst0 hat0
  go_wp2
  go_loopw [5, 7, 8] (fun s5 s7 s8 wr => SpLoop vs ps F w1.heap.size (w1.heap.size + 1) L M w1 s5 s7 s8 wr) (fun _ _ s8 _ => L - (intOf s8).toNat)
  case atStart => exact ⟨0, 0, [], zP, 5, rfl, rfl, Nat.zero_le _, Nat.zero_le _, ⟨HK2.out, by rw [List.drop_zero, HK3.out]; simp, HF0.out⟩, HST0.out, HAT0.out, ⟨Nat.zero_le _, Nat.zero_le _, fun x hx => by cases hx⟩⟩
  case round =>
    obtain ⟨i, n, ou, ⟨ax, ay⟩, prev, rfl, rfl, hi', hn', hcc, hst, hat, ⟨hlo, hln, hlm⟩⟩ := hrel
    have hbw := hb1.trans (hat.bel.mono (by omega))
    have hGr : w1.heap.size ≤ wr.heap.size := hat.bel.size
    have hws := hbw.size
    have e0 : wr.cell? ⟨w.heap.size, 0, none⟩ = some (.slice A L cv) := (hat.bel.cell (p := ⟨w.heap.size, 0, none⟩) (by dsimp only; omega)).trans d0
    have e1 : wr.cell? ⟨w.heap.size, 1, none⟩ = some (.slice B M cp) := (hat.bel.cell (p := ⟨w.heap.size, 1, none⟩) (by dsimp only; omega)).trans d1
    by_cases hlt : i < L
    · obtain ⟨v, hv⟩ : ∃ v, vs[i]? = some v := ⟨_, List.getElem?_eq_getElem (by rw [HL.out]; exact hlt)⟩
      obtain ⟨ad, rfl, hB, c3⟩ := ints_at (HR.out.step hbw) hv
      obtain ⟨hc1, hc2, hc3⟩ := hcc
      have HRUN := Lib.hid ((congrArg Prod.fst (run_cons hv (ou, (ax, ay), ps.drop n))).symm.trans hc3)
      rw [drop_at hv] at hc1
      obtain ⟨t1, t2, t3⟩ := chk_cons hc1
      have hnd := needs_drop hv
      rw [hc2] at hnd
      have hnn := needs_nn _ _ t3
      have had : (ad.add i).block < w.heap.size := by rw [block_add]; exact hB
      have q3 : decide ((i : Int) < (L : Int)) = true := by simp; omega
      have q4 : (0 : Int) ≤ (i : Int) := by omega
      have q5 : (i : Int) < (L : Int) := by omega
      have q6 : IntKind.i64.wrap ((i : Int) + 1) = (i : Int) + 1 := IntWalk.i64_in _ (by omega)
      have T3 := Lib.hid t3
      have T2 := Lib.hid t2
      have HST := Lib.hid hst
      have HAT := Lib.hid hat
      clear hv hc1 hc2 hc3 t3 t2 hst hat
      rcases takes_cases t1 with rfl | rfl | hv3
      · rw [takes_1] at hnd
        obtain ⟨⟨px, py⟩, hp2⟩ : ∃ p, ps[n]? = some p := ⟨_, List.getElem?_eq_getElem (by rw [HM.out]; omega)⟩
        obtain ⟨adp, rfl, hBp, g1, g2⟩ := (HQ.out.step hbw).at_ hp2
        dsimp only at g1 g2
        have hadp : (adp.add (n * 2)).block < w.heap.size := by rw [block_add]; exact hBp
        have TK0 := fun w => r7takes_any 1 w
        simp only [takes_1] at TK0
        have TK := Lib.hid TK0
        have RUN := Lib.hid (show (runP (vs.drop (i + 1)) (ou ++ [((px, py), [], false)], (px, py), ps.drop (n + 1))).1 = F by
          have := HRUN.out
          rw [drop_at hp2] at this
          exact this)
        have ND := Lib.hid (show needs (vs.drop (i + 1)) = (M : Int) - ((n + 1 : Nat) : Int) by omega)
        have hn1 : n + 1 ≤ M := by omega
        clear HRUN hp2 TK0 hnd hnn t1
        have r1 : IntKind.i64.wrap ((n : Int) + 1) = (n : Int) + 1 := IntWalk.i64_in _ (by omega)
        have r2 : (0 : Int) ≤ (n : Int) := by omega
        have r3 : ¬ (n : Int) = (cp : Int) := by omega
        have r4 : ¬ n = cp := by omega
        have r5 : ((n : Int) + 1).toNat = n + 1 := by omega
        go_wp2_with fail
        refine (TK.out _).mono ?_
        rintro e w3 ⟨rfl, h3⟩
        replace e0 := (h3.cell (p := ⟨w.heap.size, 0, none⟩) (by dsimp only; omega)).trans e0
        replace e1 := (h3.cell (p := ⟨w.heap.size, 1, none⟩) (by dsimp only; omega)).trans e1
        replace c3 := (h3.cell (p := ad.add i) (by omega)).trans c3
        replace g1 := (h3.cell (p := adp.add (n * 2)) (by omega)).trans g1
        replace g2 := (h3.cell (p := ⟨(adp.add (n * 2)).block, (adp.add (n * 2)).off + 1, none⟩) (by dsimp only; omega)).trans g2
        have hG3 : w1.heap.size ≤ w3.heap.size := Nat.le_trans hGr h3.size
        have hb3 := hbw.trans (h3.mono hbw.size)
        obtain ⟨cs, hO0, hcl, hov⟩ := HST.out.outC
        have hO := hO0.step h3
        have hAT := HAT.out.step h3 hGr
        have hrow := hO.row
        have hgs := hAT.sz
        clear hO0 h3
        go_upto_region 15 with fail
        iterate 19 (first | go_step | go_simp)
        refine wpList_append_full _ rfl _ _ rfl w1.heap.size i1 _ 4 48 und_sbs und_sbs hi hz0 hz1 hz2 rfl (by omega) u5 ou.length cs (by rfl) (hrow.alloc _) (some ⟨w3.heap.size, 0, none⟩) 1 1 [.int .i64 px, .int .i64 py, .slice none 0 0, .bool false] (by rfl) (by rfl) (fun j u hu => ⟨_, rfl, World.news_of_block (cs := #[.int .i64 px, .int .i64 py, .slice none 0 0, .bool false]) (t := 69) (fr := (0, 0)) (heap_alloc_new w3 _) j u hu⟩) (by simp [Value.oneCell']) (by simp) (by simp [maxLen]; omega) (by omega) (by simp; omega) ?_
        intro a7 c7 w7 ap7
        have hal := (Below.refl w3.heap.size w3).alloc (Nat.le_refl _) (Obj.cells #[.int .i64 px, .int .i64 py, .slice none 0 0, .bool false] 69)
        have hal1 := (Below.refl w1.heap.size w3).alloc hG3 (Obj.cells #[.int .i64 px, .int .i64 py, .slice none 0 0, .bool false] 69)
        have hsp := (hO.step hal).begin_ (px, py) ap7
        have hA7 := (hAT.step hal hG3).grown ap7.grew (fun k => hov k.symm) (ownsRow_ge hrow) (by simp; omega)
        have hb7 := hal1.grown ap7.grew (by simp; omega) (ownsRow_ge hrow)
        have hov7 : (Value.slice a7 (ou.length + 1) c7).ownBlock ≠ some (w1.heap.size + 1) := by
          rcases ap7.own with k | k
          · rw [k]; exact hov
          · rw [k]; intro q; have := Option.some.inj q; simp at this; omega
        replace g1 := (hb7.cell (p := adp.add (n * 2)) (by omega)).trans g1
        replace g2 := (hb7.cell (p := ⟨(adp.add (n * 2)).block, (adp.add (n * 2)).off + 1, none⟩) (by dsimp only; omega)).trans g2
        have a0 := hA7.c0
        have a1 := hA7.c1
        have b0 := hA7.f0
        have b1 := hA7.f1
        clear ap7 hO hrow hal hal1 e0 e1 c3
        go_wp2
        go_roundw
        case rel => exact ⟨i + 1, n + 1, ou ++ [((px, py), [], false)], (px, py), 1, by go_num, by go_num, by omega, by omega, ⟨T3.out, ND.out, RUN.out⟩, .inr ⟨ou, (px, py), [], cs, .slice none 0 0, rfl, (hsp.put hov7 hcl (by simp [Value.ownBlock]) _ _).put hov7 hcl (by simp [Value.ownBlock]) _ _, hcl, hov7, by simp [Value.ownBlock]⟩, hA7.put (px, py) (by omega), ⟨by simp; omega, by simp; omega, fun x hx => by
          rcases List.mem_append.1 hx with e | e
          · have := hlm x e; omega
          · rw [List.mem_singleton] at e; subst e; exact Nat.zero_le _⟩⟩
        case measure => simp [intOf]; omega
      · obtain ⟨o, ⟨px, py⟩, sg, cs, sv, rfl, hsp0, hcl, hov, hsv⟩ := HST.out.open_ (T2.out (by decide))
        obtain ⟨gv, cap, rfl, hgB, hgl⟩ := hsp0.row.form (by omega)
        have hne : sv.ownBlock ≠ some gv := fun k => hsp0.ne gv k rfl
        have hgg : gv ≠ w1.heap.size + 1 := fun k => hov (by rw [k]; rfl)
        obtain ⟨A9, c9, rfl, _, _, hf9⟩ := segs_of_row hsp0.seg
        rw [List.length_append, List.length_cons, List.length_nil] at hlo hln
        have lo2 : sg.length ≤ i := hlm ((px, py), sg, false) (by simp)
        obtain ⟨⟨zx, zy⟩, hpz⟩ : ∃ p, ps[0]? = some p := ⟨_, List.getElem?_eq_getElem (by rw [HM.out]; omega)⟩
        obtain ⟨adp, rfl, hBp, _, _⟩ := (HQ.out.step hbw).at_ hpz
        have TK0 := fun w => r7takes_any 5 w
        simp only [takes_5] at TK0
        have TK := Lib.hid TK0
        rw [takes_5] at hnd
        have RUN := Lib.hid (show (runP (vs.drop (i + 1)) (o ++ [((px, py), if ((ax, ay) : Pnt) = (px, py) then sg else sg ++ [((((ax, ay), (px, py), zP, zP), 2) : SegV)], true)], (ax, ay), ps.drop n)).1 = F by
          have h9 := HRUN.out
          have h8 : stepP (o ++ [((px, py), sg, false)], (ax, ay), ps.drop n) 5 = (shut (ax, ay) (o ++ [((px, py), sg, false)]), (ax, ay), ps.drop n) := rfl
          rw [h8, shut_snoc] at h9
          exact h9)
        have ND := Lib.hid (show needs (vs.drop (i + 1)) = (M : Int) - (n : Int) by omega)
        clear HRUN hpz TK0 hnd hnn t1
        have r2 : (0 : Int) ≤ (n : Int) := by omega
        have r6 : (n : Int) ≤ (cp : Int) := by omega
        have r7 : n ≤ cp := by omega
        go_wp2_with fail
        refine (TK.out _).mono ?_
        rintro e w3 ⟨rfl, h3⟩
        replace e0 := (h3.cell (p := ⟨w.heap.size, 0, none⟩) (by dsimp only; omega)).trans e0
        replace e1 := (h3.cell (p := ⟨w.heap.size, 1, none⟩) (by dsimp only; omega)).trans e1
        replace c3 := (h3.cell (p := ad.add i) (by omega)).trans c3
        have hG3 : w1.heap.size ≤ w3.heap.size := Nat.le_trans hGr h3.size
        have hsp3 := hsp0.step h3
        have hAT := HAT.out.step h3 hGr
        have hgs := hAT.sz
        have a0 := hAT.c0
        have a1 := hAT.c1
        have hlen := hsp3.len
        obtain ⟨q, hq⟩ : ∃ q, o.length = q := ⟨_, rfl⟩
        rw [hq] at hlen
        have cv := fun j u hu => hsp3.row.cells rfl (q * 4 + j) u hu
        have hadd : ∀ j, (⟨gv, 0, none⟩ : Addr).add j = ⟨gv, j, none⟩ := fun j => by unfold Addr.add; split <;> simp_all
        simp only [hadd] at cv
        have y0 : w3.cell? ⟨gv, q * 4, none⟩ = some (.int .i64 px) := cv 0 _ (by rw [List.getElem?_append_right (by omega), hlen]; simp)
        have y1 : w3.cell? ⟨gv, q * 4 + 1, none⟩ = some (.int .i64 py) := cv 1 _ (by rw [List.getElem?_append_right (by omega), hlen]; simp)
        have y2 : w3.cell? ⟨gv, q * 4 + 2, none⟩ = some (.slice A9 sg.length c9) := cv 2 _ (by rw [List.getElem?_append_right (by omega), hlen]; simp)
        have y3 : w3.cell? ⟨gv, q * 4 + 3, none⟩ = some (.bool false) := cv 3 _ (by rw [List.getElem?_append_right (by omega), hlen]; simp)
        have HSP := Lib.hid hsp3
        have HA3 := Lib.hid hAT
        have HQ1 := Lib.hid hq
        obtain ⟨m1, hm1⟩ : ∃ m1, o.length + 1 = m1 := ⟨_, rfl⟩
        have HM1 := Lib.hid hm1
        have j1 : IntKind.i64.wrap ((m1 : Int) - 1) = (q : Int) := by rw [IntWalk.i64_in _ (by omega)]; omega
        have j2 : (0 : Int) ≤ (q : Int) := by omega
        have j3 : (q : Int) < (m1 : Int) := by omega
        have j4 : wrap64 ((m1 : Int) - 1) = (q : Int) := by unfold wrap64; omega
        rw [hm1]
        have hb3 := hbw.trans (h3.mono hbw.size)
        have hz3 := h3.size
        clear hsp0 hsp3 hAT h3 cv hadd hq hm1
        go_upto_region 11 with fail
        go_cut [10] (fun s10 wx => w3 = wx)
        case first =>
          rcases Nat.lt_or_ge n cp with hcl2 | hcl2
          · have r3 : ¬ (n : Int) = (cp : Int) := by omega
            have r4 : ¬ n = cp := by omega
            go_wp2_with fail
            go_meet
            rfl
          · obtain rfl : n = cp := by omega
            go_wp2_with fail
            go_meet
            rfl
        case rest =>
          obtain rfl := hcut
          go_upto_region 20 with fail
          refine any_gen (fun z => (z.cell? ⟨w3.heap.size, 0, none⟩ = some (.int .i64 px) ∧ z.cell? ⟨w3.heap.size, 1, none⟩ = some (.int .i64 py) ∧ z.cell? ⟨w3.heap.size, 2, none⟩ = some (.slice A9 sg.length c9) ∧ z.cell? ⟨w3.heap.size, 3, none⟩ = some (.bool true) ∧ z.heap[w3.heap.size]? = some (.cells #[.int .i64 px, .int .i64 py, .slice A9 sg.length c9, .bool true] 69)) ∧ (z.cell? ⟨w1.heap.size + 1, 0, none⟩ = some (.int .i64 ax) ∧ z.cell? ⟨w1.heap.size + 1, 1, none⟩ = some (.int .i64 ay)) ∧ w3.heap.size + 1 ≤ z.heap.size ∧ Below w3.heap.size w3 z) ⟨⟨by simp, by simp, by simp, by simp, heap_alloc_new _ _⟩, ⟨(World.cell?_alloc_old _ _ _ (by dsimp only; omega)).trans a0, (World.cell?_alloc_old _ _ _ (by dsimp only; omega)).trans a1⟩, by simp, (Below.refl _ _).alloc (Nat.le_refl _) _⟩ ?_
          clear a0 a1 c3 e0 e1
          rintro w4 ⟨⟨x0, x1, x2, x3, xf⟩, ⟨a0, a1⟩, hs4, hbW⟩
          by_cases hpe : ((ax, ay) : Pnt) = (px, py)
          · have EQ := fun w => (show (binOp .neq 44 (P2 ax ay) (P2 px py)).run Tryd.prog w = .ok (.bool false) w from ne_pt7 ax ay px py true (decide_eq_true hpe) w)
            have RUN2 := Lib.hid (show (runP (vs.drop (i + 1)) (o ++ [((px, py), sg, true)], (ax, ay), ps.drop n)).1 = F by have h := RUN.out; rw [if_pos hpe] at h; exact h)
            clear hpe RUN
            obtain ⟨_, _, hv9, _, hs9, _⟩ := segs_of_row (HSP.out.step hbW).seg
            cases hv9
            go_upto_region 22 with fail
            have hgl2 := Nat.lt_of_lt_of_le (HSP.out.row.lt gv rfl).2 hbW.size
            have hgl3 := (HSP.out.row.lt gv rfl).2
            have y0x := (hbW.cell (p := ⟨gv, q * 4, none⟩) hgl3).trans y0
            have y1x := (hbW.cell (p := ⟨gv, q * 4 + 1, none⟩) hgl3).trans y1
            have y2x := (hbW.cell (p := ⟨gv, q * 4 + 2, none⟩) hgl3).trans y2
            have y3x := (hbW.cell (p := ⟨gv, q * 4 + 3, none⟩) hgl3).trans y3
            have f0x := (HSP.out.step hbW).row.frozenAt (q * 4)
            have f1x := (HSP.out.step hbW).row.frozenAt (q * 4 + 1)
            have f2x := (HSP.out.step hbW).row.frozenAt (q * 4 + 2)
            have f3x := (HSP.out.step hbW).row.frozenAt (q * 4 + 3)
            have hcl5 := (HSP.out.step hbW).close (sg) A9 c9 (hs9) (fun ad e => ⟨(hf9 ad e).1, Nat.lt_of_lt_of_le (HSP.out.seg.lt ad.block (by rw [e]; rfl)).2 hbW.size, fun k => hne (by rw [e, ← k]; rfl)⟩)
            rw [HQ1.out] at hcl5
            have hA5 := HA3.out.step hbW hG3
            have hszW := hA5.bel.size
            have HCL5 := Lib.hid hcl5
            have HA6 := Lib.hid ((((hA5.far (b := gv) (fun k => hgg k.symm) hgB hszW (q * 4) (.int .i64 px)).far (b := gv) (fun k => hgg k.symm) hgB (by simpa [World.setCell] using hszW) (q * 4 + 1) (.int .i64 py)).far (b := gv) (fun k => hgg k.symm) hgB (by simpa [World.setCell] using hszW) (q * 4 + 2) (.slice A9 (sg).length c9)).far (b := gv) (fun k => hgg k.symm) hgB (by simpa [World.setCell] using hszW) (q * 4 + 3) (.bool true))
            skip
            have HCL5 := Lib.hid hcl5
            have hA6 := HA6.out
            skip
            have HA6 := Lib.hid hA6
            clear hA6
            clear hcl5 hA5 y0 y1 y2 y3
            go_wp2
            go_roundw
            case rel => exact ⟨i + 1, n, o ++ [((px, py), sg, true)], (ax, ay), 5, by go_num, rfl, by omega, by omega, ⟨T3.out, ND.out, RUN2.out⟩, .inl ⟨rfl, cs ++ subC ((px, py), sg, true) A9 c9, by rw [← HM1.out, HQ1.out]; exact HCL5.out, hcl.app (clear_four _ _ _ _ hsv), hov⟩, HA6.out, ⟨by simp; omega, by simp; omega, fun x hx => by
              rcases List.mem_append.1 hx with e | e
              · have := hlm x (List.mem_append_left _ e); omega
              · rw [List.mem_singleton] at e; subst e; simp; omega⟩⟩
            case measure => simp [intOf]; omega
          · have EQ := fun w => (show (binOp .neq 44 (P2 ax ay) (P2 px py)).run Tryd.prog w = .ok (.bool true) w from ne_pt7 ax ay px py false (decide_eq_false hpe) w)
            have RUN2 := Lib.hid (show (runP (vs.drop (i + 1)) (o ++ [((px, py), sg ++ [((((ax, ay), (px, py), zP, zP), 2) : SegV)], true)], (ax, ay), ps.drop n)).1 = F by have h := RUN.out; rw [if_neg hpe] at h; exact h)
            clear hpe RUN
            have hseg := (HSP.out.step hbW).seg
            have hnil := row_nil hseg
            have flen := flatG_length sg
            have fone := flatG_one sg
            have hw4 : w3.heap.size ≤ w4.heap.size := hbW.size
            go_upto_region 21 with fail
            go_cut [11] (fun s11 wx => s11 = .pointer (some ⟨w3.heap.size, 0, none⟩) ∧ CloseBox w3.heap.size (px, py) (sg ++ [((((ax, ay), (px, py), zP, zP), 2) : SegV)]) w1.heap.size gv w3 wx)
            case first =>
              have NWS := Lib.hid (fun (z : World) (hz : Below w4.heap.size w4 z) => row_news (ownsRow_after hseg hz))
              have PP0 := Lib.hid xf
              have KK0 := Lib.hid (show Below w4.heap.size w4 w4.drew from (Below.refl _ _).drew)
              have FLS := Lib.hid (show flatG (sg ++ [((((ax, ay), (px, py), zP, zP), 2) : SegV)]) = flatG sg ++ [.int .i64 ax, .int .i64 ay, .int .i64 px, .int .i64 py, .int .i64 0, .int .i64 0, .int .i64 0, .int .i64 0, .int .i64 2] from flatG_snoc sg ((((ax, ay), (px, py), zP, zP), 2) : SegV))
              clear hseg xf x2
              refine wp_region_held_drew (S := fun z => z.cell? ⟨w3.heap.size, 0, none⟩ = some (.int .i64 px) ∧ z.cell? ⟨w3.heap.size, 1, none⟩ = some (.int .i64 py) ∧ z.cell? ⟨w3.heap.size, 3, none⟩ = some (.bool true) ∧ z.cell? ⟨w1.heap.size + 1, 0, none⟩ = some (.int .i64 ax) ∧ z.cell? ⟨w1.heap.size + 1, 1, none⟩ = some (.int .i64 ay) ∧ Below w3.heap.size w3 z) (by kernel_rfl) ⟨(KK0.out.cell (p := ⟨w3.heap.size, 0, none⟩) (by dsimp only; omega)).trans x0, (KK0.out.cell (p := ⟨w3.heap.size, 1, none⟩) (by dsimp only; omega)).trans x1, (KK0.out.cell (p := ⟨w3.heap.size, 3, none⟩) (by dsimp only; omega)).trans x3, (KK0.out.cell (p := ⟨w1.heap.size + 1, 0, none⟩) (by dsimp only; omega)).trans a0, (KK0.out.cell (p := ⟨w1.heap.size + 1, 1, none⟩) (by dsimp only; omega)).trans a1, hbW.trans (KK0.out.mono hbW.size)⟩ (fun hHeld => ?_)
              refine wpAnyH_take (i := 1) (oi := ⟨some 75, _, _, _, _, _⟩) (v := ?_) rfl (by kernel_rfl) (by kernel_rfl) (by kernel_rfl) (fun _ _ _ h => h) (Or.inl ⟨by rfl, ?_⟩) (by assumption) ?_
              rotate_left
              · (intro w hSw; (try dsimp only at hSw); go_simp; (try with_reducible rfl))
              try simp only [Act.put, List.setIfInBounds_toArray, List.set_cons_zero, List.set_cons_succ]
              refine wpAnyH_take (i := 4) (oi := ⟨some 78, _, _, _, _, _⟩) (v := ?_) rfl (by kernel_rfl) (by kernel_rfl) (by kernel_rfl) (fun _ _ _ h => h) (Or.inl ⟨by rfl, ?_⟩) (by assumption) ?_
              rotate_left
              · (intro w hSw; (try dsimp only at hSw); go_simp; (try with_reducible rfl))
              try simp only [Act.put, List.setIfInBounds_toArray, List.set_cons_zero, List.set_cons_succ]
              refine wpAnyH_take (i := 5) (oi := ⟨some 79, _, _, _, _, _⟩) (v := ?_) rfl (by kernel_rfl) (by kernel_rfl) (by kernel_rfl) (fun _ _ _ h => h) (Or.inl ⟨by rfl, ?_⟩) (by assumption) ?_
              rotate_left
              · (intro w hSw; (try dsimp only at hSw); go_simp; (try with_reducible rfl))
              try simp only [Act.put, List.setIfInBounds_toArray, List.set_cons_zero, List.set_cons_succ]
              refine wpAnyH_take (i := 6) (oi := ⟨some 80, _, _, _, _, _⟩) (v := ?_) rfl (by kernel_rfl) (by kernel_rfl) (by kernel_rfl) (fun _ _ _ h => h) (Or.inl ⟨by rfl, ?_⟩) (by assumption) ?_
              rotate_left
              · (intro w hSw; (try dsimp only at hSw); go_simp; (try with_reducible rfl))
              try simp only [Act.put, List.setIfInBounds_toArray, List.set_cons_zero, List.set_cons_succ]
              refine wpAnyH_take (i := 7) (oi := ⟨some 81, _, _, _, _, _⟩) (v := ?_) rfl (by kernel_rfl) (by kernel_rfl) (by kernel_rfl) (fun _ _ _ h => h) (Or.inl ⟨by rfl, ?_⟩) (by assumption) ?_
              rotate_left
              · (intro w hSw; (try dsimp only at hSw); go_simp; (try with_reducible rfl))
              try simp only [Act.put, List.setIfInBounds_toArray, List.set_cons_zero, List.set_cons_succ]
              refine wpAnyH_take (i := 8) (oi := ⟨some 82, _, _, _, _, _⟩) (v := ?_) rfl (by kernel_rfl) (by kernel_rfl) (by kernel_rfl) (fun _ _ _ h => h) (Or.inl ⟨by rfl, ?_⟩) (by assumption) ?_
              rotate_left
              · (intro w hSw; (try dsimp only at hSw); go_simp; (try with_reducible rfl))
              try simp only [Act.put, List.setIfInBounds_toArray, List.set_cons_zero, List.set_cons_succ]
              refine wpAnyH_ready (rs := [0, 2, 9]) (by kernel_rfl) (by simp) ?_
              refine AllReadyH.cons (o := ⟨some 74, _, _, _, _, _⟩) rfl (fun K hK => ?_) ?_
              · go_simp
                refine hK.out _ _ ?_ (fun hHeld => ?_)
                · exact ⟨((KK0.out.alloc KK0.out.size _).cell (p := ⟨w3.heap.size, 0, none⟩) (by dsimp only; omega)).trans x0, ((KK0.out.alloc KK0.out.size _).cell (p := ⟨w3.heap.size, 1, none⟩) (by dsimp only; omega)).trans x1, ((KK0.out.alloc KK0.out.size _).cell (p := ⟨w3.heap.size, 3, none⟩) (by dsimp only; omega)).trans x3, ((KK0.out.alloc KK0.out.size _).cell (p := ⟨w1.heap.size + 1, 0, none⟩) (by dsimp only; omega)).trans a0, ((KK0.out.alloc KK0.out.size _).cell (p := ⟨w1.heap.size + 1, 1, none⟩) (by dsimp only; omega)).trans a1, hbW.trans ((KK0.out.alloc KK0.out.size _).mono hbW.size)⟩
                clear hK K
                try simp only [Act.put, List.setIfInBounds_toArray, List.set_cons_zero, List.set_cons_succ]
                have KK1 := Lib.hid (KK0.out.alloc KK0.out.size (Obj.cells #[] 54))
                have PP2 := Lib.hid (blk_alloc PP0.out (Obj.cells #[] 54))
                have EE3 := Lib.hid (own_made' w4.drew 54 w4.heap.size 9 (w4.heap.size) (by first | (simp; done) | (simp; omega) | omega) KK0.out.size)
                refine wpAnyH_ready (rs := [2, 9]) (by kernel_rfl) (by simp) ?_
                refine AllReadyH.cons (o := ⟨some 76, _, _, _, _, _⟩) rfl (fun K hK => ?_) ?_
                · have q2 := (blk_cell PP2.out (j := 2) (u := .slice A9 sg.length c9) rfl).1
                  go_simp
                  refine hK.out _ _ ?_ (fun hHeld => ?_)
                  · exact ⟨(KK1.out.cell (p := ⟨w3.heap.size, 0, none⟩) (by dsimp only; omega)).trans x0, (KK1.out.cell (p := ⟨w3.heap.size, 1, none⟩) (by dsimp only; omega)).trans x1, (KK1.out.cell (p := ⟨w3.heap.size, 3, none⟩) (by dsimp only; omega)).trans x3, (KK1.out.cell (p := ⟨w1.heap.size + 1, 0, none⟩) (by dsimp only; omega)).trans a0, (KK1.out.cell (p := ⟨w1.heap.size + 1, 1, none⟩) (by dsimp only; omega)).trans a1, hbW.trans (KK1.out.mono hbW.size)⟩
                  clear hK K q2
                  try simp only [Act.put, List.setIfInBounds_toArray, List.set_cons_zero, List.set_cons_succ]
                  refine wpAnyH_ready (rs := [3, 9]) (by kernel_rfl) (by simp) ?_
                  refine AllReadyH.cons (o := ⟨some 77, _, _, _, _, _⟩) rfl (fun K hK => ?_) ?_
                  · refine step_append_full (by rfl) _ _ (by rfl) w4.heap.size i0 _ 9 72 und_sgs und_sgs ki kz0 kz1 kz2 rfl (by omega) (.slice (some ⟨w4.heap.size, 0, none⟩) 0 0) (0) ([]) (by rfl) EE3.out A9 sg.length c9 (flatG sg) (by rfl) flen (NWS.out _ KK1.out) fone hnil (by simp [maxLen]; omega) (by omega) (KK1.out.size) ?_
                    intro aB cB wB apB
                    simp only [Nat.zero_add, List.nil_append] at apB ⊢
                    have KK4 := Lib.hid (KK1.out.grown apB.grew KK1.out.size (fun k e => (EE3.out.lt k e).1))
                    have zB : w4.heap.size + 1 ≤ wB.heap.size := by have h := apB.grew.size; (try simp at h); omega
                    have PP5 := Lib.hid ((apB.grew.block (w3.heap.size) (by first | (simp; done) | (simp; omega) | omega) (by first | (simp [Value.ownBlock]; done) | (simp [Value.ownBlock]; omega))).trans PP2.out)
                    have EE6 := Lib.hid apB.row
                    refine hK.out _ _ ?_ (fun hHeld => ?_)
                    · exact ⟨(KK4.out.cell (p := ⟨w3.heap.size, 0, none⟩) (by dsimp only; omega)).trans x0, (KK4.out.cell (p := ⟨w3.heap.size, 1, none⟩) (by dsimp only; omega)).trans x1, (KK4.out.cell (p := ⟨w3.heap.size, 3, none⟩) (by dsimp only; omega)).trans x3, (KK4.out.cell (p := ⟨w1.heap.size + 1, 0, none⟩) (by dsimp only; omega)).trans a0, (KK4.out.cell (p := ⟨w1.heap.size + 1, 1, none⟩) (by dsimp only; omega)).trans a1, hbW.trans (KK4.out.mono hbW.size)⟩
                    clear hK K
                    try simp only [Act.put, List.setIfInBounds_toArray, List.set_cons_zero, List.set_cons_succ]
                    refine wpAnyH_ready (rs := [9]) (by kernel_rfl) (by simp) ?_
                    refine AllReadyH.cons (o := ⟨some 83, _, _, _, _, _⟩) rfl (fun K hK => ?_) ?_
                    · go_simp
                      refine hK.out _ _ ?_ (fun hHeld => ?_)
                      · exact ⟨((KK4.out.alloc KK4.out.size _).cell (p := ⟨w3.heap.size, 0, none⟩) (by dsimp only; omega)).trans x0, ((KK4.out.alloc KK4.out.size _).cell (p := ⟨w3.heap.size, 1, none⟩) (by dsimp only; omega)).trans x1, ((KK4.out.alloc KK4.out.size _).cell (p := ⟨w3.heap.size, 3, none⟩) (by dsimp only; omega)).trans x3, ((KK4.out.alloc KK4.out.size _).cell (p := ⟨w1.heap.size + 1, 0, none⟩) (by dsimp only; omega)).trans a0, ((KK4.out.alloc KK4.out.size _).cell (p := ⟨w1.heap.size + 1, 1, none⟩) (by dsimp only; omega)).trans a1, hbW.trans ((KK4.out.alloc KK4.out.size _).mono hbW.size)⟩
                      clear hK K
                      try simp only [Act.put, List.setIfInBounds_toArray, List.set_cons_zero, List.set_cons_succ]
                      have KK7 := Lib.hid (KK4.out.alloc KK4.out.size (Obj.cells #[.int .i64 ax, .int .i64 ay, .int .i64 px, .int .i64 py, .int .i64 0, .int .i64 0, .int .i64 0, .int .i64 0, .int .i64 2] 54))
                      have EE8 := Lib.hid (EE6.out.alloc (Obj.cells #[.int .i64 ax, .int .i64 ay, .int .i64 px, .int .i64 py, .int .i64 0, .int .i64 0, .int .i64 0, .int .i64 0, .int .i64 2] 54))
                      have PP9 := Lib.hid (blk_alloc PP5.out (Obj.cells #[.int .i64 ax, .int .i64 ay, .int .i64 px, .int .i64 py, .int .i64 0, .int .i64 0, .int .i64 0, .int .i64 0, .int .i64 2] 54))
                      have NN10 := Lib.hid (blk_new wB (Obj.cells #[.int .i64 ax, .int .i64 ay, .int .i64 px, .int .i64 py, .int .i64 0, .int .i64 0, .int .i64 0, .int .i64 0, .int .i64 2] 54) (wB.heap.size) (by first | (simp; done) | (simp; omega) | omega))
                      refine wpAnyH_ready (rs := [10]) (by kernel_rfl) (by simp) ?_
                      refine AllReadyH.cons (o := ⟨some 84, _, _, _, _, _⟩) rfl (fun K hK => ?_) ?_
                      · refine step_append_full (by rfl) _ _ (by rfl) w4.heap.size i0 _ 9 72 und_sgs und_sgs ki kz0 kz1 kz2 rfl (by omega) (.slice aB (sg.length) cB) (sg.length) (flatG sg) (by rfl) EE8.out (some ⟨wB.heap.size, 0, none⟩) 1 1 [.int .i64 ax, .int .i64 ay, .int .i64 px, .int .i64 py, .int .i64 0, .int .i64 0, .int .i64 0, .int .i64 0, .int .i64 2] (by rfl) (by rfl) (fun j u hu => ⟨_, rfl, World.news_of_block (cs := #[.int .i64 ax, .int .i64 ay, .int .i64 px, .int .i64 py, .int .i64 0, .int .i64 0, .int .i64 0, .int .i64 0, .int .i64 2]) (t := 54) (fr := (0, 0)) NN10.out j u hu⟩) (by simp [Value.oneCell']) (by simp) (by simp [maxLen]; omega) (by omega) (KK7.out.size) ?_
                        intro aD cD wD apD
                        have KK11 := Lib.hid (KK7.out.grown apD.grew KK7.out.size (fun k e => (EE8.out.lt k e).1))
                        have zD : wB.heap.size + 1 ≤ wD.heap.size := by have h := apD.grew.size; (try simp at h); omega
                        have PP12 := Lib.hid ((apD.grew.block (w3.heap.size) (by first | (simp; done) | (simp; omega) | omega) (fun e => by first | (have h := (apB.row.lt _ e.symm).2; omega) | (have h := (apB.row.lt _ e.symm).1; omega) | (rcases apB.own with k | k <;> (rw [k] at e; simp [Value.ownBlock] at e; try omega)))).trans PP9.out)
                        have EE13 := Lib.hid apD.row
                        refine hK.out _ _ ?_ (fun hHeld => ?_)
                        · exact ⟨(KK11.out.cell (p := ⟨w3.heap.size, 0, none⟩) (by dsimp only; omega)).trans x0, (KK11.out.cell (p := ⟨w3.heap.size, 1, none⟩) (by dsimp only; omega)).trans x1, (KK11.out.cell (p := ⟨w3.heap.size, 3, none⟩) (by dsimp only; omega)).trans x3, (KK11.out.cell (p := ⟨w1.heap.size + 1, 0, none⟩) (by dsimp only; omega)).trans a0, (KK11.out.cell (p := ⟨w1.heap.size + 1, 1, none⟩) (by dsimp only; omega)).trans a1, hbW.trans (KK11.out.mono hbW.size)⟩
                        clear hK K
                        try simp only [Act.put, List.setIfInBounds_toArray, List.set_cons_zero, List.set_cons_succ]
                        refine wpAnyH_take (i := 11) (oi := ⟨some 85, _, _, _, _, _⟩) (v := ?_) rfl (by kernel_rfl) (by kernel_rfl) (by kernel_rfl) (fun _ _ _ h => h) (Or.inl ⟨by rfl, ?_⟩) (by assumption) ?_
                        rotate_left
                        · (intro w hSw; (try dsimp only at hSw); go_simp; (try with_reducible rfl))
                        try simp only [Act.put, List.setIfInBounds_toArray, List.set_cons_zero, List.set_cons_succ]
                        refine wpAnyH_ready (rs := [12]) (by kernel_rfl) (by simp) ?_
                        refine AllReadyH.cons (o := ⟨none, _, _, _, _, _⟩) rfl (fun K hK => ?_) ?_
                        · have q2 := blk_cell PP12.out (j := 2) (u := .slice A9 sg.length c9) rfl
                          obtain ⟨q2, f2⟩ := q2
                          go_simp
                          refine hK.out _ _ ?_ (fun hHeld => ?_)
                          · exact ⟨(World.cell?_setCell_other _ _ _ _ (by simp)).trans ((KK11.out.cell (p := ⟨w3.heap.size, 0, none⟩) (by dsimp only; omega)).trans x0), (World.cell?_setCell_other _ _ _ _ (by simp)).trans ((KK11.out.cell (p := ⟨w3.heap.size, 1, none⟩) (by dsimp only; omega)).trans x1), (World.cell?_setCell_other _ _ _ _ (by simp)).trans ((KK11.out.cell (p := ⟨w3.heap.size, 3, none⟩) (by dsimp only; omega)).trans x3), (World.cell?_setCell_far _ _ _ _ (by (try dsimp only); omega)).trans ((KK11.out.cell (p := ⟨w1.heap.size + 1, 0, none⟩) (by dsimp only; omega)).trans a0), (World.cell?_setCell_far _ _ _ _ (by (try dsimp only); omega)).trans ((KK11.out.cell (p := ⟨w1.heap.size + 1, 1, none⟩) (by dsimp only; omega)).trans a1), (hbW.trans (KK11.out.mono hbW.size)).setCell (Nat.le_refl _) _⟩
                          clear hK K
                          try simp only [Act.put, List.setIfInBounds_toArray, List.set_cons_zero, List.set_cons_succ]
                          refine wpAnyH_done (by kernel_rfl) ?_ _
                          go_wp2_with fail
                          go_meet
                          have hrow := EE13.out
                          rw [← FLS.out] at hrow
                          exact ⟨rfl, close_box PP12.out hrow (by omega) (by omega) (by omega) (by omega) (Nat.le_refl _) (hbW.trans (KK11.out.mono hbW.size))⟩
                        exact AllReadyH.nil
                      exact AllReadyH.nil
                    exact AllReadyH.nil
                  refine AllReadyH.cons (o := ⟨some 83, _, _, _, _, _⟩) rfl (fun K hK => ?_) ?_
                  · go_simp
                    refine hK.out _ _ ?_ (fun hHeld => ?_)
                    · exact ⟨((KK1.out.alloc KK1.out.size _).cell (p := ⟨w3.heap.size, 0, none⟩) (by dsimp only; omega)).trans x0, ((KK1.out.alloc KK1.out.size _).cell (p := ⟨w3.heap.size, 1, none⟩) (by dsimp only; omega)).trans x1, ((KK1.out.alloc KK1.out.size _).cell (p := ⟨w3.heap.size, 3, none⟩) (by dsimp only; omega)).trans x3, ((KK1.out.alloc KK1.out.size _).cell (p := ⟨w1.heap.size + 1, 0, none⟩) (by dsimp only; omega)).trans a0, ((KK1.out.alloc KK1.out.size _).cell (p := ⟨w1.heap.size + 1, 1, none⟩) (by dsimp only; omega)).trans a1, hbW.trans ((KK1.out.alloc KK1.out.size _).mono hbW.size)⟩
                    clear hK K
                    try simp only [Act.put, List.setIfInBounds_toArray, List.set_cons_zero, List.set_cons_succ]
                    have KK14 := Lib.hid (KK1.out.alloc KK1.out.size (Obj.cells #[.int .i64 ax, .int .i64 ay, .int .i64 px, .int .i64 py, .int .i64 0, .int .i64 0, .int .i64 0, .int .i64 0, .int .i64 2] 54))
                    have EE15 := Lib.hid (EE3.out.alloc (Obj.cells #[.int .i64 ax, .int .i64 ay, .int .i64 px, .int .i64 py, .int .i64 0, .int .i64 0, .int .i64 0, .int .i64 0, .int .i64 2] 54))
                    have PP16 := Lib.hid (blk_alloc PP2.out (Obj.cells #[.int .i64 ax, .int .i64 ay, .int .i64 px, .int .i64 py, .int .i64 0, .int .i64 0, .int .i64 0, .int .i64 0, .int .i64 2] 54))
                    have NN17 := Lib.hid (blk_new (w4.drew.alloc (Obj.cells #[] 54)) (Obj.cells #[.int .i64 ax, .int .i64 ay, .int .i64 px, .int .i64 py, .int .i64 0, .int .i64 0, .int .i64 0, .int .i64 0, .int .i64 2] 54) (w4.heap.size + 1) (by first | (simp; done) | (simp; omega) | omega))
                    refine wpAnyH_ready (rs := [3]) (by kernel_rfl) (by simp) ?_
                    refine AllReadyH.cons (o := ⟨some 77, _, _, _, _, _⟩) rfl (fun K hK => ?_) ?_
                    · refine step_append_full (by rfl) _ _ (by rfl) w4.heap.size i0 _ 9 72 und_sgs und_sgs ki kz0 kz1 kz2 rfl (by omega) (.slice (some ⟨w4.heap.size, 0, none⟩) 0 0) (0) ([]) (by rfl) EE15.out A9 sg.length c9 (flatG sg) (by rfl) flen (NWS.out _ KK14.out) fone hnil (by simp [maxLen]; omega) (by omega) (KK14.out.size) ?_
                      intro aB cB wB apB
                      simp only [Nat.zero_add, List.nil_append] at apB ⊢
                      have KK18 := Lib.hid (KK14.out.grown apB.grew KK14.out.size (fun k e => (EE15.out.lt k e).1))
                      have zB : w4.heap.size + 1 + 1 ≤ wB.heap.size := by have h := apB.grew.size; (try simp at h); omega
                      have NN19 := Lib.hid ((apB.grew.block (w4.heap.size + 1) (by first | (simp; done) | (simp; omega) | omega) (by first | (simp [Value.ownBlock]; done) | (simp [Value.ownBlock]; omega))).trans NN17.out)
                      have PP20 := Lib.hid ((apB.grew.block (w3.heap.size) (by first | (simp; done) | (simp; omega) | omega) (by first | (simp [Value.ownBlock]; done) | (simp [Value.ownBlock]; omega))).trans PP16.out)
                      have EE21 := Lib.hid apB.row
                      refine hK.out _ _ ?_ (fun hHeld => ?_)
                      · exact ⟨(KK18.out.cell (p := ⟨w3.heap.size, 0, none⟩) (by dsimp only; omega)).trans x0, (KK18.out.cell (p := ⟨w3.heap.size, 1, none⟩) (by dsimp only; omega)).trans x1, (KK18.out.cell (p := ⟨w3.heap.size, 3, none⟩) (by dsimp only; omega)).trans x3, (KK18.out.cell (p := ⟨w1.heap.size + 1, 0, none⟩) (by dsimp only; omega)).trans a0, (KK18.out.cell (p := ⟨w1.heap.size + 1, 1, none⟩) (by dsimp only; omega)).trans a1, hbW.trans (KK18.out.mono hbW.size)⟩
                      clear hK K
                      try simp only [Act.put, List.setIfInBounds_toArray, List.set_cons_zero, List.set_cons_succ]
                      refine wpAnyH_ready (rs := [10]) (by kernel_rfl) (by simp) ?_
                      refine AllReadyH.cons (o := ⟨some 84, _, _, _, _, _⟩) rfl (fun K hK => ?_) ?_
                      · refine step_append_full (by rfl) _ _ (by rfl) w4.heap.size i0 _ 9 72 und_sgs und_sgs ki kz0 kz1 kz2 rfl (by omega) (.slice aB (sg.length) cB) (sg.length) (flatG sg) (by rfl) EE21.out (some ⟨w4.heap.size + 1, 0, none⟩) 1 1 [.int .i64 ax, .int .i64 ay, .int .i64 px, .int .i64 py, .int .i64 0, .int .i64 0, .int .i64 0, .int .i64 0, .int .i64 2] (by rfl) (by rfl) (fun j u hu => ⟨_, rfl, World.news_of_block (cs := #[.int .i64 ax, .int .i64 ay, .int .i64 px, .int .i64 py, .int .i64 0, .int .i64 0, .int .i64 0, .int .i64 0, .int .i64 2]) (t := 54) (fr := (0, 0)) NN19.out j u hu⟩) (by simp [Value.oneCell']) (by simp) (by simp [maxLen]; omega) (by omega) (KK18.out.size) ?_
                        intro aD cD wD apD
                        have KK22 := Lib.hid (KK18.out.grown apD.grew KK18.out.size (fun k e => (EE21.out.lt k e).1))
                        have zD : wB.heap.size ≤ wD.heap.size := by have h := apD.grew.size; (try simp at h); omega
                        have PP23 := Lib.hid ((apD.grew.block (w3.heap.size) (by first | (simp; done) | (simp; omega) | omega) (fun e => by first | (have h := (apB.row.lt _ e.symm).2; omega) | (have h := (apB.row.lt _ e.symm).1; omega) | (rcases apB.own with k | k <;> (rw [k] at e; simp [Value.ownBlock] at e; try omega)))).trans PP20.out)
                        have EE24 := Lib.hid apD.row
                        refine hK.out _ _ ?_ (fun hHeld => ?_)
                        · exact ⟨(KK22.out.cell (p := ⟨w3.heap.size, 0, none⟩) (by dsimp only; omega)).trans x0, (KK22.out.cell (p := ⟨w3.heap.size, 1, none⟩) (by dsimp only; omega)).trans x1, (KK22.out.cell (p := ⟨w3.heap.size, 3, none⟩) (by dsimp only; omega)).trans x3, (KK22.out.cell (p := ⟨w1.heap.size + 1, 0, none⟩) (by dsimp only; omega)).trans a0, (KK22.out.cell (p := ⟨w1.heap.size + 1, 1, none⟩) (by dsimp only; omega)).trans a1, hbW.trans (KK22.out.mono hbW.size)⟩
                        clear hK K
                        try simp only [Act.put, List.setIfInBounds_toArray, List.set_cons_zero, List.set_cons_succ]
                        refine wpAnyH_take (i := 11) (oi := ⟨some 85, _, _, _, _, _⟩) (v := ?_) rfl (by kernel_rfl) (by kernel_rfl) (by kernel_rfl) (fun _ _ _ h => h) (Or.inl ⟨by rfl, ?_⟩) (by assumption) ?_
                        rotate_left
                        · (intro w hSw; (try dsimp only at hSw); go_simp; (try with_reducible rfl))
                        try simp only [Act.put, List.setIfInBounds_toArray, List.set_cons_zero, List.set_cons_succ]
                        refine wpAnyH_ready (rs := [12]) (by kernel_rfl) (by simp) ?_
                        refine AllReadyH.cons (o := ⟨none, _, _, _, _, _⟩) rfl (fun K hK => ?_) ?_
                        · have q2 := blk_cell PP23.out (j := 2) (u := .slice A9 sg.length c9) rfl
                          obtain ⟨q2, f2⟩ := q2
                          go_simp
                          refine hK.out _ _ ?_ (fun hHeld => ?_)
                          · exact ⟨(World.cell?_setCell_other _ _ _ _ (by simp)).trans ((KK22.out.cell (p := ⟨w3.heap.size, 0, none⟩) (by dsimp only; omega)).trans x0), (World.cell?_setCell_other _ _ _ _ (by simp)).trans ((KK22.out.cell (p := ⟨w3.heap.size, 1, none⟩) (by dsimp only; omega)).trans x1), (World.cell?_setCell_other _ _ _ _ (by simp)).trans ((KK22.out.cell (p := ⟨w3.heap.size, 3, none⟩) (by dsimp only; omega)).trans x3), (World.cell?_setCell_far _ _ _ _ (by (try dsimp only); omega)).trans ((KK22.out.cell (p := ⟨w1.heap.size + 1, 0, none⟩) (by dsimp only; omega)).trans a0), (World.cell?_setCell_far _ _ _ _ (by (try dsimp only); omega)).trans ((KK22.out.cell (p := ⟨w1.heap.size + 1, 1, none⟩) (by dsimp only; omega)).trans a1), (hbW.trans (KK22.out.mono hbW.size)).setCell (Nat.le_refl _) _⟩
                          clear hK K
                          try simp only [Act.put, List.setIfInBounds_toArray, List.set_cons_zero, List.set_cons_succ]
                          refine wpAnyH_done (by kernel_rfl) ?_ _
                          go_wp2_with fail
                          go_meet
                          have hrow := EE24.out
                          rw [← FLS.out] at hrow
                          exact ⟨rfl, close_box PP23.out hrow (by omega) (by omega) (by omega) (by omega) (Nat.le_refl _) (hbW.trans (KK22.out.mono hbW.size))⟩
                        exact AllReadyH.nil
                      exact AllReadyH.nil
                    exact AllReadyH.nil
                  exact AllReadyH.nil
                refine AllReadyH.cons (o := ⟨some 83, _, _, _, _, _⟩) rfl (fun K hK => ?_) ?_
                · go_simp
                  refine hK.out _ _ ?_ (fun hHeld => ?_)
                  · exact ⟨((KK1.out.alloc KK1.out.size _).cell (p := ⟨w3.heap.size, 0, none⟩) (by dsimp only; omega)).trans x0, ((KK1.out.alloc KK1.out.size _).cell (p := ⟨w3.heap.size, 1, none⟩) (by dsimp only; omega)).trans x1, ((KK1.out.alloc KK1.out.size _).cell (p := ⟨w3.heap.size, 3, none⟩) (by dsimp only; omega)).trans x3, ((KK1.out.alloc KK1.out.size _).cell (p := ⟨w1.heap.size + 1, 0, none⟩) (by dsimp only; omega)).trans a0, ((KK1.out.alloc KK1.out.size _).cell (p := ⟨w1.heap.size + 1, 1, none⟩) (by dsimp only; omega)).trans a1, hbW.trans ((KK1.out.alloc KK1.out.size _).mono hbW.size)⟩
                  clear hK K
                  try simp only [Act.put, List.setIfInBounds_toArray, List.set_cons_zero, List.set_cons_succ]
                  have KK25 := Lib.hid (KK1.out.alloc KK1.out.size (Obj.cells #[.int .i64 ax, .int .i64 ay, .int .i64 px, .int .i64 py, .int .i64 0, .int .i64 0, .int .i64 0, .int .i64 0, .int .i64 2] 54))
                  have EE26 := Lib.hid (EE3.out.alloc (Obj.cells #[.int .i64 ax, .int .i64 ay, .int .i64 px, .int .i64 py, .int .i64 0, .int .i64 0, .int .i64 0, .int .i64 0, .int .i64 2] 54))
                  have PP27 := Lib.hid (blk_alloc PP2.out (Obj.cells #[.int .i64 ax, .int .i64 ay, .int .i64 px, .int .i64 py, .int .i64 0, .int .i64 0, .int .i64 0, .int .i64 0, .int .i64 2] 54))
                  have NN28 := Lib.hid (blk_new (w4.drew.alloc (Obj.cells #[] 54)) (Obj.cells #[.int .i64 ax, .int .i64 ay, .int .i64 px, .int .i64 py, .int .i64 0, .int .i64 0, .int .i64 0, .int .i64 0, .int .i64 2] 54) (w4.heap.size + 1) (by first | (simp; done) | (simp; omega) | omega))
                  refine wpAnyH_ready (rs := [2]) (by kernel_rfl) (by simp) ?_
                  refine AllReadyH.cons (o := ⟨some 76, _, _, _, _, _⟩) rfl (fun K hK => ?_) ?_
                  · have q2 := (blk_cell PP27.out (j := 2) (u := .slice A9 sg.length c9) rfl).1
                    go_simp
                    refine hK.out _ _ ?_ (fun hHeld => ?_)
                    · exact ⟨(KK25.out.cell (p := ⟨w3.heap.size, 0, none⟩) (by dsimp only; omega)).trans x0, (KK25.out.cell (p := ⟨w3.heap.size, 1, none⟩) (by dsimp only; omega)).trans x1, (KK25.out.cell (p := ⟨w3.heap.size, 3, none⟩) (by dsimp only; omega)).trans x3, (KK25.out.cell (p := ⟨w1.heap.size + 1, 0, none⟩) (by dsimp only; omega)).trans a0, (KK25.out.cell (p := ⟨w1.heap.size + 1, 1, none⟩) (by dsimp only; omega)).trans a1, hbW.trans (KK25.out.mono hbW.size)⟩
                    clear hK K q2
                    try simp only [Act.put, List.setIfInBounds_toArray, List.set_cons_zero, List.set_cons_succ]
                    refine wpAnyH_ready (rs := [3]) (by kernel_rfl) (by simp) ?_
                    refine AllReadyH.cons (o := ⟨some 77, _, _, _, _, _⟩) rfl (fun K hK => ?_) ?_
                    · refine step_append_full (by rfl) _ _ (by rfl) w4.heap.size i0 _ 9 72 und_sgs und_sgs ki kz0 kz1 kz2 rfl (by omega) (.slice (some ⟨w4.heap.size, 0, none⟩) 0 0) (0) ([]) (by rfl) EE26.out A9 sg.length c9 (flatG sg) (by rfl) flen (NWS.out _ KK25.out) fone hnil (by simp [maxLen]; omega) (by omega) (KK25.out.size) ?_
                      intro aB cB wB apB
                      simp only [Nat.zero_add, List.nil_append] at apB ⊢
                      have KK29 := Lib.hid (KK25.out.grown apB.grew KK25.out.size (fun k e => (EE26.out.lt k e).1))
                      have zB : w4.heap.size + 1 + 1 ≤ wB.heap.size := by have h := apB.grew.size; (try simp at h); omega
                      have NN30 := Lib.hid ((apB.grew.block (w4.heap.size + 1) (by first | (simp; done) | (simp; omega) | omega) (by first | (simp [Value.ownBlock]; done) | (simp [Value.ownBlock]; omega))).trans NN28.out)
                      have PP31 := Lib.hid ((apB.grew.block (w3.heap.size) (by first | (simp; done) | (simp; omega) | omega) (by first | (simp [Value.ownBlock]; done) | (simp [Value.ownBlock]; omega))).trans PP27.out)
                      have EE32 := Lib.hid apB.row
                      refine hK.out _ _ ?_ (fun hHeld => ?_)
                      · exact ⟨(KK29.out.cell (p := ⟨w3.heap.size, 0, none⟩) (by dsimp only; omega)).trans x0, (KK29.out.cell (p := ⟨w3.heap.size, 1, none⟩) (by dsimp only; omega)).trans x1, (KK29.out.cell (p := ⟨w3.heap.size, 3, none⟩) (by dsimp only; omega)).trans x3, (KK29.out.cell (p := ⟨w1.heap.size + 1, 0, none⟩) (by dsimp only; omega)).trans a0, (KK29.out.cell (p := ⟨w1.heap.size + 1, 1, none⟩) (by dsimp only; omega)).trans a1, hbW.trans (KK29.out.mono hbW.size)⟩
                      clear hK K
                      try simp only [Act.put, List.setIfInBounds_toArray, List.set_cons_zero, List.set_cons_succ]
                      refine wpAnyH_ready (rs := [10]) (by kernel_rfl) (by simp) ?_
                      refine AllReadyH.cons (o := ⟨some 84, _, _, _, _, _⟩) rfl (fun K hK => ?_) ?_
                      · refine step_append_full (by rfl) _ _ (by rfl) w4.heap.size i0 _ 9 72 und_sgs und_sgs ki kz0 kz1 kz2 rfl (by omega) (.slice aB (sg.length) cB) (sg.length) (flatG sg) (by rfl) EE32.out (some ⟨w4.heap.size + 1, 0, none⟩) 1 1 [.int .i64 ax, .int .i64 ay, .int .i64 px, .int .i64 py, .int .i64 0, .int .i64 0, .int .i64 0, .int .i64 0, .int .i64 2] (by rfl) (by rfl) (fun j u hu => ⟨_, rfl, World.news_of_block (cs := #[.int .i64 ax, .int .i64 ay, .int .i64 px, .int .i64 py, .int .i64 0, .int .i64 0, .int .i64 0, .int .i64 0, .int .i64 2]) (t := 54) (fr := (0, 0)) NN30.out j u hu⟩) (by simp [Value.oneCell']) (by simp) (by simp [maxLen]; omega) (by omega) (KK29.out.size) ?_
                        intro aD cD wD apD
                        have KK33 := Lib.hid (KK29.out.grown apD.grew KK29.out.size (fun k e => (EE32.out.lt k e).1))
                        have zD : wB.heap.size ≤ wD.heap.size := by have h := apD.grew.size; (try simp at h); omega
                        have PP34 := Lib.hid ((apD.grew.block (w3.heap.size) (by first | (simp; done) | (simp; omega) | omega) (fun e => by first | (have h := (apB.row.lt _ e.symm).2; omega) | (have h := (apB.row.lt _ e.symm).1; omega) | (rcases apB.own with k | k <;> (rw [k] at e; simp [Value.ownBlock] at e; try omega)))).trans PP31.out)
                        have EE35 := Lib.hid apD.row
                        refine hK.out _ _ ?_ (fun hHeld => ?_)
                        · exact ⟨(KK33.out.cell (p := ⟨w3.heap.size, 0, none⟩) (by dsimp only; omega)).trans x0, (KK33.out.cell (p := ⟨w3.heap.size, 1, none⟩) (by dsimp only; omega)).trans x1, (KK33.out.cell (p := ⟨w3.heap.size, 3, none⟩) (by dsimp only; omega)).trans x3, (KK33.out.cell (p := ⟨w1.heap.size + 1, 0, none⟩) (by dsimp only; omega)).trans a0, (KK33.out.cell (p := ⟨w1.heap.size + 1, 1, none⟩) (by dsimp only; omega)).trans a1, hbW.trans (KK33.out.mono hbW.size)⟩
                        clear hK K
                        try simp only [Act.put, List.setIfInBounds_toArray, List.set_cons_zero, List.set_cons_succ]
                        refine wpAnyH_take (i := 11) (oi := ⟨some 85, _, _, _, _, _⟩) (v := ?_) rfl (by kernel_rfl) (by kernel_rfl) (by kernel_rfl) (fun _ _ _ h => h) (Or.inl ⟨by rfl, ?_⟩) (by assumption) ?_
                        rotate_left
                        · (intro w hSw; (try dsimp only at hSw); go_simp; (try with_reducible rfl))
                        try simp only [Act.put, List.setIfInBounds_toArray, List.set_cons_zero, List.set_cons_succ]
                        refine wpAnyH_ready (rs := [12]) (by kernel_rfl) (by simp) ?_
                        refine AllReadyH.cons (o := ⟨none, _, _, _, _, _⟩) rfl (fun K hK => ?_) ?_
                        · have q2 := blk_cell PP34.out (j := 2) (u := .slice A9 sg.length c9) rfl
                          obtain ⟨q2, f2⟩ := q2
                          go_simp
                          refine hK.out _ _ ?_ (fun hHeld => ?_)
                          · exact ⟨(World.cell?_setCell_other _ _ _ _ (by simp)).trans ((KK33.out.cell (p := ⟨w3.heap.size, 0, none⟩) (by dsimp only; omega)).trans x0), (World.cell?_setCell_other _ _ _ _ (by simp)).trans ((KK33.out.cell (p := ⟨w3.heap.size, 1, none⟩) (by dsimp only; omega)).trans x1), (World.cell?_setCell_other _ _ _ _ (by simp)).trans ((KK33.out.cell (p := ⟨w3.heap.size, 3, none⟩) (by dsimp only; omega)).trans x3), (World.cell?_setCell_far _ _ _ _ (by (try dsimp only); omega)).trans ((KK33.out.cell (p := ⟨w1.heap.size + 1, 0, none⟩) (by dsimp only; omega)).trans a0), (World.cell?_setCell_far _ _ _ _ (by (try dsimp only); omega)).trans ((KK33.out.cell (p := ⟨w1.heap.size + 1, 1, none⟩) (by dsimp only; omega)).trans a1), (hbW.trans (KK33.out.mono hbW.size)).setCell (Nat.le_refl _) _⟩
                          clear hK K
                          try simp only [Act.put, List.setIfInBounds_toArray, List.set_cons_zero, List.set_cons_succ]
                          refine wpAnyH_done (by kernel_rfl) ?_ _
                          go_wp2_with fail
                          go_meet
                          have hrow := EE35.out
                          rw [← FLS.out] at hrow
                          exact ⟨rfl, close_box PP34.out hrow (by omega) (by omega) (by omega) (by omega) (Nat.le_refl _) (hbW.trans (KK33.out.mono hbW.size))⟩
                        exact AllReadyH.nil
                      exact AllReadyH.nil
                    exact AllReadyH.nil
                  exact AllReadyH.nil
                exact AllReadyH.nil
              refine AllReadyH.cons (o := ⟨some 76, _, _, _, _, _⟩) rfl (fun K hK => ?_) ?_
              · have q2 := (blk_cell PP0.out (j := 2) (u := .slice A9 sg.length c9) rfl).1
                go_simp
                refine hK.out _ _ ?_ (fun hHeld => ?_)
                · exact ⟨(KK0.out.cell (p := ⟨w3.heap.size, 0, none⟩) (by dsimp only; omega)).trans x0, (KK0.out.cell (p := ⟨w3.heap.size, 1, none⟩) (by dsimp only; omega)).trans x1, (KK0.out.cell (p := ⟨w3.heap.size, 3, none⟩) (by dsimp only; omega)).trans x3, (KK0.out.cell (p := ⟨w1.heap.size + 1, 0, none⟩) (by dsimp only; omega)).trans a0, (KK0.out.cell (p := ⟨w1.heap.size + 1, 1, none⟩) (by dsimp only; omega)).trans a1, hbW.trans (KK0.out.mono hbW.size)⟩
                clear hK K q2
                try simp only [Act.put, List.setIfInBounds_toArray, List.set_cons_zero, List.set_cons_succ]
                refine wpAnyH_ready (rs := [0, 9]) (by kernel_rfl) (by simp) ?_
                refine AllReadyH.cons (o := ⟨some 74, _, _, _, _, _⟩) rfl (fun K hK => ?_) ?_
                · go_simp
                  refine hK.out _ _ ?_ (fun hHeld => ?_)
                  · exact ⟨((KK0.out.alloc KK0.out.size _).cell (p := ⟨w3.heap.size, 0, none⟩) (by dsimp only; omega)).trans x0, ((KK0.out.alloc KK0.out.size _).cell (p := ⟨w3.heap.size, 1, none⟩) (by dsimp only; omega)).trans x1, ((KK0.out.alloc KK0.out.size _).cell (p := ⟨w3.heap.size, 3, none⟩) (by dsimp only; omega)).trans x3, ((KK0.out.alloc KK0.out.size _).cell (p := ⟨w1.heap.size + 1, 0, none⟩) (by dsimp only; omega)).trans a0, ((KK0.out.alloc KK0.out.size _).cell (p := ⟨w1.heap.size + 1, 1, none⟩) (by dsimp only; omega)).trans a1, hbW.trans ((KK0.out.alloc KK0.out.size _).mono hbW.size)⟩
                  clear hK K
                  try simp only [Act.put, List.setIfInBounds_toArray, List.set_cons_zero, List.set_cons_succ]
                  have KK36 := Lib.hid (KK0.out.alloc KK0.out.size (Obj.cells #[] 54))
                  have PP37 := Lib.hid (blk_alloc PP0.out (Obj.cells #[] 54))
                  have EE38 := Lib.hid (own_made' w4.drew 54 w4.heap.size 9 (w4.heap.size) (by first | (simp; done) | (simp; omega) | omega) KK0.out.size)
                  refine wpAnyH_ready (rs := [3, 9]) (by kernel_rfl) (by simp) ?_
                  refine AllReadyH.cons (o := ⟨some 77, _, _, _, _, _⟩) rfl (fun K hK => ?_) ?_
                  · refine step_append_full (by rfl) _ _ (by rfl) w4.heap.size i0 _ 9 72 und_sgs und_sgs ki kz0 kz1 kz2 rfl (by omega) (.slice (some ⟨w4.heap.size, 0, none⟩) 0 0) (0) ([]) (by rfl) EE38.out A9 sg.length c9 (flatG sg) (by rfl) flen (NWS.out _ KK36.out) fone hnil (by simp [maxLen]; omega) (by omega) (KK36.out.size) ?_
                    intro aB cB wB apB
                    simp only [Nat.zero_add, List.nil_append] at apB ⊢
                    have KK39 := Lib.hid (KK36.out.grown apB.grew KK36.out.size (fun k e => (EE38.out.lt k e).1))
                    have zB : w4.heap.size + 1 ≤ wB.heap.size := by have h := apB.grew.size; (try simp at h); omega
                    have PP40 := Lib.hid ((apB.grew.block (w3.heap.size) (by first | (simp; done) | (simp; omega) | omega) (by first | (simp [Value.ownBlock]; done) | (simp [Value.ownBlock]; omega))).trans PP37.out)
                    have EE41 := Lib.hid apB.row
                    refine hK.out _ _ ?_ (fun hHeld => ?_)
                    · exact ⟨(KK39.out.cell (p := ⟨w3.heap.size, 0, none⟩) (by dsimp only; omega)).trans x0, (KK39.out.cell (p := ⟨w3.heap.size, 1, none⟩) (by dsimp only; omega)).trans x1, (KK39.out.cell (p := ⟨w3.heap.size, 3, none⟩) (by dsimp only; omega)).trans x3, (KK39.out.cell (p := ⟨w1.heap.size + 1, 0, none⟩) (by dsimp only; omega)).trans a0, (KK39.out.cell (p := ⟨w1.heap.size + 1, 1, none⟩) (by dsimp only; omega)).trans a1, hbW.trans (KK39.out.mono hbW.size)⟩
                    clear hK K
                    try simp only [Act.put, List.setIfInBounds_toArray, List.set_cons_zero, List.set_cons_succ]
                    refine wpAnyH_ready (rs := [9]) (by kernel_rfl) (by simp) ?_
                    refine AllReadyH.cons (o := ⟨some 83, _, _, _, _, _⟩) rfl (fun K hK => ?_) ?_
                    · go_simp
                      refine hK.out _ _ ?_ (fun hHeld => ?_)
                      · exact ⟨((KK39.out.alloc KK39.out.size _).cell (p := ⟨w3.heap.size, 0, none⟩) (by dsimp only; omega)).trans x0, ((KK39.out.alloc KK39.out.size _).cell (p := ⟨w3.heap.size, 1, none⟩) (by dsimp only; omega)).trans x1, ((KK39.out.alloc KK39.out.size _).cell (p := ⟨w3.heap.size, 3, none⟩) (by dsimp only; omega)).trans x3, ((KK39.out.alloc KK39.out.size _).cell (p := ⟨w1.heap.size + 1, 0, none⟩) (by dsimp only; omega)).trans a0, ((KK39.out.alloc KK39.out.size _).cell (p := ⟨w1.heap.size + 1, 1, none⟩) (by dsimp only; omega)).trans a1, hbW.trans ((KK39.out.alloc KK39.out.size _).mono hbW.size)⟩
                      clear hK K
                      try simp only [Act.put, List.setIfInBounds_toArray, List.set_cons_zero, List.set_cons_succ]
                      have KK42 := Lib.hid (KK39.out.alloc KK39.out.size (Obj.cells #[.int .i64 ax, .int .i64 ay, .int .i64 px, .int .i64 py, .int .i64 0, .int .i64 0, .int .i64 0, .int .i64 0, .int .i64 2] 54))
                      have EE43 := Lib.hid (EE41.out.alloc (Obj.cells #[.int .i64 ax, .int .i64 ay, .int .i64 px, .int .i64 py, .int .i64 0, .int .i64 0, .int .i64 0, .int .i64 0, .int .i64 2] 54))
                      have PP44 := Lib.hid (blk_alloc PP40.out (Obj.cells #[.int .i64 ax, .int .i64 ay, .int .i64 px, .int .i64 py, .int .i64 0, .int .i64 0, .int .i64 0, .int .i64 0, .int .i64 2] 54))
                      have NN45 := Lib.hid (blk_new wB (Obj.cells #[.int .i64 ax, .int .i64 ay, .int .i64 px, .int .i64 py, .int .i64 0, .int .i64 0, .int .i64 0, .int .i64 0, .int .i64 2] 54) (wB.heap.size) (by first | (simp; done) | (simp; omega) | omega))
                      refine wpAnyH_ready (rs := [10]) (by kernel_rfl) (by simp) ?_
                      refine AllReadyH.cons (o := ⟨some 84, _, _, _, _, _⟩) rfl (fun K hK => ?_) ?_
                      · refine step_append_full (by rfl) _ _ (by rfl) w4.heap.size i0 _ 9 72 und_sgs und_sgs ki kz0 kz1 kz2 rfl (by omega) (.slice aB (sg.length) cB) (sg.length) (flatG sg) (by rfl) EE43.out (some ⟨wB.heap.size, 0, none⟩) 1 1 [.int .i64 ax, .int .i64 ay, .int .i64 px, .int .i64 py, .int .i64 0, .int .i64 0, .int .i64 0, .int .i64 0, .int .i64 2] (by rfl) (by rfl) (fun j u hu => ⟨_, rfl, World.news_of_block (cs := #[.int .i64 ax, .int .i64 ay, .int .i64 px, .int .i64 py, .int .i64 0, .int .i64 0, .int .i64 0, .int .i64 0, .int .i64 2]) (t := 54) (fr := (0, 0)) NN45.out j u hu⟩) (by simp [Value.oneCell']) (by simp) (by simp [maxLen]; omega) (by omega) (KK42.out.size) ?_
                        intro aD cD wD apD
                        have KK46 := Lib.hid (KK42.out.grown apD.grew KK42.out.size (fun k e => (EE43.out.lt k e).1))
                        have zD : wB.heap.size + 1 ≤ wD.heap.size := by have h := apD.grew.size; (try simp at h); omega
                        have PP47 := Lib.hid ((apD.grew.block (w3.heap.size) (by first | (simp; done) | (simp; omega) | omega) (fun e => by first | (have h := (apB.row.lt _ e.symm).2; omega) | (have h := (apB.row.lt _ e.symm).1; omega) | (rcases apB.own with k | k <;> (rw [k] at e; simp [Value.ownBlock] at e; try omega)))).trans PP44.out)
                        have EE48 := Lib.hid apD.row
                        refine hK.out _ _ ?_ (fun hHeld => ?_)
                        · exact ⟨(KK46.out.cell (p := ⟨w3.heap.size, 0, none⟩) (by dsimp only; omega)).trans x0, (KK46.out.cell (p := ⟨w3.heap.size, 1, none⟩) (by dsimp only; omega)).trans x1, (KK46.out.cell (p := ⟨w3.heap.size, 3, none⟩) (by dsimp only; omega)).trans x3, (KK46.out.cell (p := ⟨w1.heap.size + 1, 0, none⟩) (by dsimp only; omega)).trans a0, (KK46.out.cell (p := ⟨w1.heap.size + 1, 1, none⟩) (by dsimp only; omega)).trans a1, hbW.trans (KK46.out.mono hbW.size)⟩
                        clear hK K
                        try simp only [Act.put, List.setIfInBounds_toArray, List.set_cons_zero, List.set_cons_succ]
                        refine wpAnyH_take (i := 11) (oi := ⟨some 85, _, _, _, _, _⟩) (v := ?_) rfl (by kernel_rfl) (by kernel_rfl) (by kernel_rfl) (fun _ _ _ h => h) (Or.inl ⟨by rfl, ?_⟩) (by assumption) ?_
                        rotate_left
                        · (intro w hSw; (try dsimp only at hSw); go_simp; (try with_reducible rfl))
                        try simp only [Act.put, List.setIfInBounds_toArray, List.set_cons_zero, List.set_cons_succ]
                        refine wpAnyH_ready (rs := [12]) (by kernel_rfl) (by simp) ?_
                        refine AllReadyH.cons (o := ⟨none, _, _, _, _, _⟩) rfl (fun K hK => ?_) ?_
                        · have q2 := blk_cell PP47.out (j := 2) (u := .slice A9 sg.length c9) rfl
                          obtain ⟨q2, f2⟩ := q2
                          go_simp
                          refine hK.out _ _ ?_ (fun hHeld => ?_)
                          · exact ⟨(World.cell?_setCell_other _ _ _ _ (by simp)).trans ((KK46.out.cell (p := ⟨w3.heap.size, 0, none⟩) (by dsimp only; omega)).trans x0), (World.cell?_setCell_other _ _ _ _ (by simp)).trans ((KK46.out.cell (p := ⟨w3.heap.size, 1, none⟩) (by dsimp only; omega)).trans x1), (World.cell?_setCell_other _ _ _ _ (by simp)).trans ((KK46.out.cell (p := ⟨w3.heap.size, 3, none⟩) (by dsimp only; omega)).trans x3), (World.cell?_setCell_far _ _ _ _ (by (try dsimp only); omega)).trans ((KK46.out.cell (p := ⟨w1.heap.size + 1, 0, none⟩) (by dsimp only; omega)).trans a0), (World.cell?_setCell_far _ _ _ _ (by (try dsimp only); omega)).trans ((KK46.out.cell (p := ⟨w1.heap.size + 1, 1, none⟩) (by dsimp only; omega)).trans a1), (hbW.trans (KK46.out.mono hbW.size)).setCell (Nat.le_refl _) _⟩
                          clear hK K
                          try simp only [Act.put, List.setIfInBounds_toArray, List.set_cons_zero, List.set_cons_succ]
                          refine wpAnyH_done (by kernel_rfl) ?_ _
                          go_wp2_with fail
                          go_meet
                          have hrow := EE48.out
                          rw [← FLS.out] at hrow
                          exact ⟨rfl, close_box PP47.out hrow (by omega) (by omega) (by omega) (by omega) (Nat.le_refl _) (hbW.trans (KK46.out.mono hbW.size))⟩
                        exact AllReadyH.nil
                      exact AllReadyH.nil
                    exact AllReadyH.nil
                  refine AllReadyH.cons (o := ⟨some 83, _, _, _, _, _⟩) rfl (fun K hK => ?_) ?_
                  · go_simp
                    refine hK.out _ _ ?_ (fun hHeld => ?_)
                    · exact ⟨((KK36.out.alloc KK36.out.size _).cell (p := ⟨w3.heap.size, 0, none⟩) (by dsimp only; omega)).trans x0, ((KK36.out.alloc KK36.out.size _).cell (p := ⟨w3.heap.size, 1, none⟩) (by dsimp only; omega)).trans x1, ((KK36.out.alloc KK36.out.size _).cell (p := ⟨w3.heap.size, 3, none⟩) (by dsimp only; omega)).trans x3, ((KK36.out.alloc KK36.out.size _).cell (p := ⟨w1.heap.size + 1, 0, none⟩) (by dsimp only; omega)).trans a0, ((KK36.out.alloc KK36.out.size _).cell (p := ⟨w1.heap.size + 1, 1, none⟩) (by dsimp only; omega)).trans a1, hbW.trans ((KK36.out.alloc KK36.out.size _).mono hbW.size)⟩
                    clear hK K
                    try simp only [Act.put, List.setIfInBounds_toArray, List.set_cons_zero, List.set_cons_succ]
                    have KK49 := Lib.hid (KK36.out.alloc KK36.out.size (Obj.cells #[.int .i64 ax, .int .i64 ay, .int .i64 px, .int .i64 py, .int .i64 0, .int .i64 0, .int .i64 0, .int .i64 0, .int .i64 2] 54))
                    have EE50 := Lib.hid (EE38.out.alloc (Obj.cells #[.int .i64 ax, .int .i64 ay, .int .i64 px, .int .i64 py, .int .i64 0, .int .i64 0, .int .i64 0, .int .i64 0, .int .i64 2] 54))
                    have PP51 := Lib.hid (blk_alloc PP37.out (Obj.cells #[.int .i64 ax, .int .i64 ay, .int .i64 px, .int .i64 py, .int .i64 0, .int .i64 0, .int .i64 0, .int .i64 0, .int .i64 2] 54))
                    have NN52 := Lib.hid (blk_new (w4.drew.alloc (Obj.cells #[] 54)) (Obj.cells #[.int .i64 ax, .int .i64 ay, .int .i64 px, .int .i64 py, .int .i64 0, .int .i64 0, .int .i64 0, .int .i64 0, .int .i64 2] 54) (w4.heap.size + 1) (by first | (simp; done) | (simp; omega) | omega))
                    refine wpAnyH_ready (rs := [3]) (by kernel_rfl) (by simp) ?_
                    refine AllReadyH.cons (o := ⟨some 77, _, _, _, _, _⟩) rfl (fun K hK => ?_) ?_
                    · refine step_append_full (by rfl) _ _ (by rfl) w4.heap.size i0 _ 9 72 und_sgs und_sgs ki kz0 kz1 kz2 rfl (by omega) (.slice (some ⟨w4.heap.size, 0, none⟩) 0 0) (0) ([]) (by rfl) EE50.out A9 sg.length c9 (flatG sg) (by rfl) flen (NWS.out _ KK49.out) fone hnil (by simp [maxLen]; omega) (by omega) (KK49.out.size) ?_
                      intro aB cB wB apB
                      simp only [Nat.zero_add, List.nil_append] at apB ⊢
                      have KK53 := Lib.hid (KK49.out.grown apB.grew KK49.out.size (fun k e => (EE50.out.lt k e).1))
                      have zB : w4.heap.size + 1 + 1 ≤ wB.heap.size := by have h := apB.grew.size; (try simp at h); omega
                      have NN54 := Lib.hid ((apB.grew.block (w4.heap.size + 1) (by first | (simp; done) | (simp; omega) | omega) (by first | (simp [Value.ownBlock]; done) | (simp [Value.ownBlock]; omega))).trans NN52.out)
                      have PP55 := Lib.hid ((apB.grew.block (w3.heap.size) (by first | (simp; done) | (simp; omega) | omega) (by first | (simp [Value.ownBlock]; done) | (simp [Value.ownBlock]; omega))).trans PP51.out)
                      have EE56 := Lib.hid apB.row
                      refine hK.out _ _ ?_ (fun hHeld => ?_)
                      · exact ⟨(KK53.out.cell (p := ⟨w3.heap.size, 0, none⟩) (by dsimp only; omega)).trans x0, (KK53.out.cell (p := ⟨w3.heap.size, 1, none⟩) (by dsimp only; omega)).trans x1, (KK53.out.cell (p := ⟨w3.heap.size, 3, none⟩) (by dsimp only; omega)).trans x3, (KK53.out.cell (p := ⟨w1.heap.size + 1, 0, none⟩) (by dsimp only; omega)).trans a0, (KK53.out.cell (p := ⟨w1.heap.size + 1, 1, none⟩) (by dsimp only; omega)).trans a1, hbW.trans (KK53.out.mono hbW.size)⟩
                      clear hK K
                      try simp only [Act.put, List.setIfInBounds_toArray, List.set_cons_zero, List.set_cons_succ]
                      refine wpAnyH_ready (rs := [10]) (by kernel_rfl) (by simp) ?_
                      refine AllReadyH.cons (o := ⟨some 84, _, _, _, _, _⟩) rfl (fun K hK => ?_) ?_
                      · refine step_append_full (by rfl) _ _ (by rfl) w4.heap.size i0 _ 9 72 und_sgs und_sgs ki kz0 kz1 kz2 rfl (by omega) (.slice aB (sg.length) cB) (sg.length) (flatG sg) (by rfl) EE56.out (some ⟨w4.heap.size + 1, 0, none⟩) 1 1 [.int .i64 ax, .int .i64 ay, .int .i64 px, .int .i64 py, .int .i64 0, .int .i64 0, .int .i64 0, .int .i64 0, .int .i64 2] (by rfl) (by rfl) (fun j u hu => ⟨_, rfl, World.news_of_block (cs := #[.int .i64 ax, .int .i64 ay, .int .i64 px, .int .i64 py, .int .i64 0, .int .i64 0, .int .i64 0, .int .i64 0, .int .i64 2]) (t := 54) (fr := (0, 0)) NN54.out j u hu⟩) (by simp [Value.oneCell']) (by simp) (by simp [maxLen]; omega) (by omega) (KK53.out.size) ?_
                        intro aD cD wD apD
                        have KK57 := Lib.hid (KK53.out.grown apD.grew KK53.out.size (fun k e => (EE56.out.lt k e).1))
                        have zD : wB.heap.size ≤ wD.heap.size := by have h := apD.grew.size; (try simp at h); omega
                        have PP58 := Lib.hid ((apD.grew.block (w3.heap.size) (by first | (simp; done) | (simp; omega) | omega) (fun e => by first | (have h := (apB.row.lt _ e.symm).2; omega) | (have h := (apB.row.lt _ e.symm).1; omega) | (rcases apB.own with k | k <;> (rw [k] at e; simp [Value.ownBlock] at e; try omega)))).trans PP55.out)
                        have EE59 := Lib.hid apD.row
                        refine hK.out _ _ ?_ (fun hHeld => ?_)
                        · exact ⟨(KK57.out.cell (p := ⟨w3.heap.size, 0, none⟩) (by dsimp only; omega)).trans x0, (KK57.out.cell (p := ⟨w3.heap.size, 1, none⟩) (by dsimp only; omega)).trans x1, (KK57.out.cell (p := ⟨w3.heap.size, 3, none⟩) (by dsimp only; omega)).trans x3, (KK57.out.cell (p := ⟨w1.heap.size + 1, 0, none⟩) (by dsimp only; omega)).trans a0, (KK57.out.cell (p := ⟨w1.heap.size + 1, 1, none⟩) (by dsimp only; omega)).trans a1, hbW.trans (KK57.out.mono hbW.size)⟩
                        clear hK K
                        try simp only [Act.put, List.setIfInBounds_toArray, List.set_cons_zero, List.set_cons_succ]
                        refine wpAnyH_take (i := 11) (oi := ⟨some 85, _, _, _, _, _⟩) (v := ?_) rfl (by kernel_rfl) (by kernel_rfl) (by kernel_rfl) (fun _ _ _ h => h) (Or.inl ⟨by rfl, ?_⟩) (by assumption) ?_
                        rotate_left
                        · (intro w hSw; (try dsimp only at hSw); go_simp; (try with_reducible rfl))
                        try simp only [Act.put, List.setIfInBounds_toArray, List.set_cons_zero, List.set_cons_succ]
                        refine wpAnyH_ready (rs := [12]) (by kernel_rfl) (by simp) ?_
                        refine AllReadyH.cons (o := ⟨none, _, _, _, _, _⟩) rfl (fun K hK => ?_) ?_
                        · have q2 := blk_cell PP58.out (j := 2) (u := .slice A9 sg.length c9) rfl
                          obtain ⟨q2, f2⟩ := q2
                          go_simp
                          refine hK.out _ _ ?_ (fun hHeld => ?_)
                          · exact ⟨(World.cell?_setCell_other _ _ _ _ (by simp)).trans ((KK57.out.cell (p := ⟨w3.heap.size, 0, none⟩) (by dsimp only; omega)).trans x0), (World.cell?_setCell_other _ _ _ _ (by simp)).trans ((KK57.out.cell (p := ⟨w3.heap.size, 1, none⟩) (by dsimp only; omega)).trans x1), (World.cell?_setCell_other _ _ _ _ (by simp)).trans ((KK57.out.cell (p := ⟨w3.heap.size, 3, none⟩) (by dsimp only; omega)).trans x3), (World.cell?_setCell_far _ _ _ _ (by (try dsimp only); omega)).trans ((KK57.out.cell (p := ⟨w1.heap.size + 1, 0, none⟩) (by dsimp only; omega)).trans a0), (World.cell?_setCell_far _ _ _ _ (by (try dsimp only); omega)).trans ((KK57.out.cell (p := ⟨w1.heap.size + 1, 1, none⟩) (by dsimp only; omega)).trans a1), (hbW.trans (KK57.out.mono hbW.size)).setCell (Nat.le_refl _) _⟩
                          clear hK K
                          try simp only [Act.put, List.setIfInBounds_toArray, List.set_cons_zero, List.set_cons_succ]
                          refine wpAnyH_done (by kernel_rfl) ?_ _
                          go_wp2_with fail
                          go_meet
                          have hrow := EE59.out
                          rw [← FLS.out] at hrow
                          exact ⟨rfl, close_box PP58.out hrow (by omega) (by omega) (by omega) (by omega) (Nat.le_refl _) (hbW.trans (KK57.out.mono hbW.size))⟩
                        exact AllReadyH.nil
                      exact AllReadyH.nil
                    exact AllReadyH.nil
                  exact AllReadyH.nil
                refine AllReadyH.cons (o := ⟨some 83, _, _, _, _, _⟩) rfl (fun K hK => ?_) ?_
                · go_simp
                  refine hK.out _ _ ?_ (fun hHeld => ?_)
                  · exact ⟨((KK0.out.alloc KK0.out.size _).cell (p := ⟨w3.heap.size, 0, none⟩) (by dsimp only; omega)).trans x0, ((KK0.out.alloc KK0.out.size _).cell (p := ⟨w3.heap.size, 1, none⟩) (by dsimp only; omega)).trans x1, ((KK0.out.alloc KK0.out.size _).cell (p := ⟨w3.heap.size, 3, none⟩) (by dsimp only; omega)).trans x3, ((KK0.out.alloc KK0.out.size _).cell (p := ⟨w1.heap.size + 1, 0, none⟩) (by dsimp only; omega)).trans a0, ((KK0.out.alloc KK0.out.size _).cell (p := ⟨w1.heap.size + 1, 1, none⟩) (by dsimp only; omega)).trans a1, hbW.trans ((KK0.out.alloc KK0.out.size _).mono hbW.size)⟩
                  clear hK K
                  try simp only [Act.put, List.setIfInBounds_toArray, List.set_cons_zero, List.set_cons_succ]
                  have KK60 := Lib.hid (KK0.out.alloc KK0.out.size (Obj.cells #[.int .i64 ax, .int .i64 ay, .int .i64 px, .int .i64 py, .int .i64 0, .int .i64 0, .int .i64 0, .int .i64 0, .int .i64 2] 54))
                  have PP61 := Lib.hid (blk_alloc PP0.out (Obj.cells #[.int .i64 ax, .int .i64 ay, .int .i64 px, .int .i64 py, .int .i64 0, .int .i64 0, .int .i64 0, .int .i64 0, .int .i64 2] 54))
                  have NN62 := Lib.hid (blk_new w4.drew (Obj.cells #[.int .i64 ax, .int .i64 ay, .int .i64 px, .int .i64 py, .int .i64 0, .int .i64 0, .int .i64 0, .int .i64 0, .int .i64 2] 54) (w4.heap.size) (by first | (simp; done) | (simp; omega) | omega))
                  refine wpAnyH_ready (rs := [0]) (by kernel_rfl) (by simp) ?_
                  refine AllReadyH.cons (o := ⟨some 74, _, _, _, _, _⟩) rfl (fun K hK => ?_) ?_
                  · go_simp
                    refine hK.out _ _ ?_ (fun hHeld => ?_)
                    · exact ⟨((KK60.out.alloc KK60.out.size _).cell (p := ⟨w3.heap.size, 0, none⟩) (by dsimp only; omega)).trans x0, ((KK60.out.alloc KK60.out.size _).cell (p := ⟨w3.heap.size, 1, none⟩) (by dsimp only; omega)).trans x1, ((KK60.out.alloc KK60.out.size _).cell (p := ⟨w3.heap.size, 3, none⟩) (by dsimp only; omega)).trans x3, ((KK60.out.alloc KK60.out.size _).cell (p := ⟨w1.heap.size + 1, 0, none⟩) (by dsimp only; omega)).trans a0, ((KK60.out.alloc KK60.out.size _).cell (p := ⟨w1.heap.size + 1, 1, none⟩) (by dsimp only; omega)).trans a1, hbW.trans ((KK60.out.alloc KK60.out.size _).mono hbW.size)⟩
                    clear hK K
                    try simp only [Act.put, List.setIfInBounds_toArray, List.set_cons_zero, List.set_cons_succ]
                    have KK63 := Lib.hid (KK60.out.alloc KK60.out.size (Obj.cells #[] 54))
                    have NN64 := Lib.hid (blk_alloc NN62.out (Obj.cells #[] 54))
                    have PP65 := Lib.hid (blk_alloc PP61.out (Obj.cells #[] 54))
                    have EE66 := Lib.hid (own_made' (w4.drew.alloc (Obj.cells #[.int .i64 ax, .int .i64 ay, .int .i64 px, .int .i64 py, .int .i64 0, .int .i64 0, .int .i64 0, .int .i64 0, .int .i64 2] 54)) 54 w4.heap.size 9 (w4.heap.size + 1) (by first | (simp; done) | (simp; omega) | omega) KK60.out.size)
                    refine wpAnyH_ready (rs := [3]) (by kernel_rfl) (by simp) ?_
                    refine AllReadyH.cons (o := ⟨some 77, _, _, _, _, _⟩) rfl (fun K hK => ?_) ?_
                    · refine step_append_full (by rfl) _ _ (by rfl) w4.heap.size i0 _ 9 72 und_sgs und_sgs ki kz0 kz1 kz2 rfl (by omega) (.slice (some ⟨w4.heap.size + 1, 0, none⟩) 0 0) (0) ([]) (by rfl) EE66.out A9 sg.length c9 (flatG sg) (by rfl) flen (NWS.out _ KK63.out) fone hnil (by simp [maxLen]; omega) (by omega) (KK63.out.size) ?_
                      intro aB cB wB apB
                      simp only [Nat.zero_add, List.nil_append] at apB ⊢
                      have KK67 := Lib.hid (KK63.out.grown apB.grew KK63.out.size (fun k e => (EE66.out.lt k e).1))
                      have zB : w4.heap.size + 1 + 1 ≤ wB.heap.size := by have h := apB.grew.size; (try simp at h); omega
                      have NN68 := Lib.hid ((apB.grew.block (w4.heap.size) (by first | (simp; done) | (simp; omega) | omega) (by first | (simp [Value.ownBlock]; done) | (simp [Value.ownBlock]; omega))).trans NN64.out)
                      have PP69 := Lib.hid ((apB.grew.block (w3.heap.size) (by first | (simp; done) | (simp; omega) | omega) (by first | (simp [Value.ownBlock]; done) | (simp [Value.ownBlock]; omega))).trans PP65.out)
                      have EE70 := Lib.hid apB.row
                      refine hK.out _ _ ?_ (fun hHeld => ?_)
                      · exact ⟨(KK67.out.cell (p := ⟨w3.heap.size, 0, none⟩) (by dsimp only; omega)).trans x0, (KK67.out.cell (p := ⟨w3.heap.size, 1, none⟩) (by dsimp only; omega)).trans x1, (KK67.out.cell (p := ⟨w3.heap.size, 3, none⟩) (by dsimp only; omega)).trans x3, (KK67.out.cell (p := ⟨w1.heap.size + 1, 0, none⟩) (by dsimp only; omega)).trans a0, (KK67.out.cell (p := ⟨w1.heap.size + 1, 1, none⟩) (by dsimp only; omega)).trans a1, hbW.trans (KK67.out.mono hbW.size)⟩
                      clear hK K
                      try simp only [Act.put, List.setIfInBounds_toArray, List.set_cons_zero, List.set_cons_succ]
                      refine wpAnyH_ready (rs := [10]) (by kernel_rfl) (by simp) ?_
                      refine AllReadyH.cons (o := ⟨some 84, _, _, _, _, _⟩) rfl (fun K hK => ?_) ?_
                      · refine step_append_full (by rfl) _ _ (by rfl) w4.heap.size i0 _ 9 72 und_sgs und_sgs ki kz0 kz1 kz2 rfl (by omega) (.slice aB (sg.length) cB) (sg.length) (flatG sg) (by rfl) EE70.out (some ⟨w4.heap.size, 0, none⟩) 1 1 [.int .i64 ax, .int .i64 ay, .int .i64 px, .int .i64 py, .int .i64 0, .int .i64 0, .int .i64 0, .int .i64 0, .int .i64 2] (by rfl) (by rfl) (fun j u hu => ⟨_, rfl, World.news_of_block (cs := #[.int .i64 ax, .int .i64 ay, .int .i64 px, .int .i64 py, .int .i64 0, .int .i64 0, .int .i64 0, .int .i64 0, .int .i64 2]) (t := 54) (fr := (0, 0)) NN68.out j u hu⟩) (by simp [Value.oneCell']) (by simp) (by simp [maxLen]; omega) (by omega) (KK67.out.size) ?_
                        intro aD cD wD apD
                        have KK71 := Lib.hid (KK67.out.grown apD.grew KK67.out.size (fun k e => (EE70.out.lt k e).1))
                        have zD : wB.heap.size ≤ wD.heap.size := by have h := apD.grew.size; (try simp at h); omega
                        have PP72 := Lib.hid ((apD.grew.block (w3.heap.size) (by first | (simp; done) | (simp; omega) | omega) (fun e => by first | (have h := (apB.row.lt _ e.symm).2; omega) | (have h := (apB.row.lt _ e.symm).1; omega) | (rcases apB.own with k | k <;> (rw [k] at e; simp [Value.ownBlock] at e; try omega)))).trans PP69.out)
                        have EE73 := Lib.hid apD.row
                        refine hK.out _ _ ?_ (fun hHeld => ?_)
                        · exact ⟨(KK71.out.cell (p := ⟨w3.heap.size, 0, none⟩) (by dsimp only; omega)).trans x0, (KK71.out.cell (p := ⟨w3.heap.size, 1, none⟩) (by dsimp only; omega)).trans x1, (KK71.out.cell (p := ⟨w3.heap.size, 3, none⟩) (by dsimp only; omega)).trans x3, (KK71.out.cell (p := ⟨w1.heap.size + 1, 0, none⟩) (by dsimp only; omega)).trans a0, (KK71.out.cell (p := ⟨w1.heap.size + 1, 1, none⟩) (by dsimp only; omega)).trans a1, hbW.trans (KK71.out.mono hbW.size)⟩
                        clear hK K
                        try simp only [Act.put, List.setIfInBounds_toArray, List.set_cons_zero, List.set_cons_succ]
                        refine wpAnyH_take (i := 11) (oi := ⟨some 85, _, _, _, _, _⟩) (v := ?_) rfl (by kernel_rfl) (by kernel_rfl) (by kernel_rfl) (fun _ _ _ h => h) (Or.inl ⟨by rfl, ?_⟩) (by assumption) ?_
                        rotate_left
                        · (intro w hSw; (try dsimp only at hSw); go_simp; (try with_reducible rfl))
                        try simp only [Act.put, List.setIfInBounds_toArray, List.set_cons_zero, List.set_cons_succ]
                        refine wpAnyH_ready (rs := [12]) (by kernel_rfl) (by simp) ?_
                        refine AllReadyH.cons (o := ⟨none, _, _, _, _, _⟩) rfl (fun K hK => ?_) ?_
                        · have q2 := blk_cell PP72.out (j := 2) (u := .slice A9 sg.length c9) rfl
                          obtain ⟨q2, f2⟩ := q2
                          go_simp
                          refine hK.out _ _ ?_ (fun hHeld => ?_)
                          · exact ⟨(World.cell?_setCell_other _ _ _ _ (by simp)).trans ((KK71.out.cell (p := ⟨w3.heap.size, 0, none⟩) (by dsimp only; omega)).trans x0), (World.cell?_setCell_other _ _ _ _ (by simp)).trans ((KK71.out.cell (p := ⟨w3.heap.size, 1, none⟩) (by dsimp only; omega)).trans x1), (World.cell?_setCell_other _ _ _ _ (by simp)).trans ((KK71.out.cell (p := ⟨w3.heap.size, 3, none⟩) (by dsimp only; omega)).trans x3), (World.cell?_setCell_far _ _ _ _ (by (try dsimp only); omega)).trans ((KK71.out.cell (p := ⟨w1.heap.size + 1, 0, none⟩) (by dsimp only; omega)).trans a0), (World.cell?_setCell_far _ _ _ _ (by (try dsimp only); omega)).trans ((KK71.out.cell (p := ⟨w1.heap.size + 1, 1, none⟩) (by dsimp only; omega)).trans a1), (hbW.trans (KK71.out.mono hbW.size)).setCell (Nat.le_refl _) _⟩
                          clear hK K
                          try simp only [Act.put, List.setIfInBounds_toArray, List.set_cons_zero, List.set_cons_succ]
                          refine wpAnyH_done (by kernel_rfl) ?_ _
                          go_wp2_with fail
                          go_meet
                          have hrow := EE73.out
                          rw [← FLS.out] at hrow
                          exact ⟨rfl, close_box PP72.out hrow (by omega) (by omega) (by omega) (by omega) (Nat.le_refl _) (hbW.trans (KK71.out.mono hbW.size))⟩
                        exact AllReadyH.nil
                      exact AllReadyH.nil
                    exact AllReadyH.nil
                  exact AllReadyH.nil
                exact AllReadyH.nil
              refine AllReadyH.cons (o := ⟨some 83, _, _, _, _, _⟩) rfl (fun K hK => ?_) ?_
              · go_simp
                refine hK.out _ _ ?_ (fun hHeld => ?_)
                · exact ⟨((KK0.out.alloc KK0.out.size _).cell (p := ⟨w3.heap.size, 0, none⟩) (by dsimp only; omega)).trans x0, ((KK0.out.alloc KK0.out.size _).cell (p := ⟨w3.heap.size, 1, none⟩) (by dsimp only; omega)).trans x1, ((KK0.out.alloc KK0.out.size _).cell (p := ⟨w3.heap.size, 3, none⟩) (by dsimp only; omega)).trans x3, ((KK0.out.alloc KK0.out.size _).cell (p := ⟨w1.heap.size + 1, 0, none⟩) (by dsimp only; omega)).trans a0, ((KK0.out.alloc KK0.out.size _).cell (p := ⟨w1.heap.size + 1, 1, none⟩) (by dsimp only; omega)).trans a1, hbW.trans ((KK0.out.alloc KK0.out.size _).mono hbW.size)⟩
                clear hK K
                try simp only [Act.put, List.setIfInBounds_toArray, List.set_cons_zero, List.set_cons_succ]
                have KK74 := Lib.hid (KK0.out.alloc KK0.out.size (Obj.cells #[.int .i64 ax, .int .i64 ay, .int .i64 px, .int .i64 py, .int .i64 0, .int .i64 0, .int .i64 0, .int .i64 0, .int .i64 2] 54))
                have PP75 := Lib.hid (blk_alloc PP0.out (Obj.cells #[.int .i64 ax, .int .i64 ay, .int .i64 px, .int .i64 py, .int .i64 0, .int .i64 0, .int .i64 0, .int .i64 0, .int .i64 2] 54))
                have NN76 := Lib.hid (blk_new w4.drew (Obj.cells #[.int .i64 ax, .int .i64 ay, .int .i64 px, .int .i64 py, .int .i64 0, .int .i64 0, .int .i64 0, .int .i64 0, .int .i64 2] 54) (w4.heap.size) (by first | (simp; done) | (simp; omega) | omega))
                refine wpAnyH_ready (rs := [0, 2]) (by kernel_rfl) (by simp) ?_
                refine AllReadyH.cons (o := ⟨some 74, _, _, _, _, _⟩) rfl (fun K hK => ?_) ?_
                · go_simp
                  refine hK.out _ _ ?_ (fun hHeld => ?_)
                  · exact ⟨((KK74.out.alloc KK74.out.size _).cell (p := ⟨w3.heap.size, 0, none⟩) (by dsimp only; omega)).trans x0, ((KK74.out.alloc KK74.out.size _).cell (p := ⟨w3.heap.size, 1, none⟩) (by dsimp only; omega)).trans x1, ((KK74.out.alloc KK74.out.size _).cell (p := ⟨w3.heap.size, 3, none⟩) (by dsimp only; omega)).trans x3, ((KK74.out.alloc KK74.out.size _).cell (p := ⟨w1.heap.size + 1, 0, none⟩) (by dsimp only; omega)).trans a0, ((KK74.out.alloc KK74.out.size _).cell (p := ⟨w1.heap.size + 1, 1, none⟩) (by dsimp only; omega)).trans a1, hbW.trans ((KK74.out.alloc KK74.out.size _).mono hbW.size)⟩
                  clear hK K
                  try simp only [Act.put, List.setIfInBounds_toArray, List.set_cons_zero, List.set_cons_succ]
                  have KK77 := Lib.hid (KK74.out.alloc KK74.out.size (Obj.cells #[] 54))
                  have NN78 := Lib.hid (blk_alloc NN76.out (Obj.cells #[] 54))
                  have PP79 := Lib.hid (blk_alloc PP75.out (Obj.cells #[] 54))
                  have EE80 := Lib.hid (own_made' (w4.drew.alloc (Obj.cells #[.int .i64 ax, .int .i64 ay, .int .i64 px, .int .i64 py, .int .i64 0, .int .i64 0, .int .i64 0, .int .i64 0, .int .i64 2] 54)) 54 w4.heap.size 9 (w4.heap.size + 1) (by first | (simp; done) | (simp; omega) | omega) KK74.out.size)
                  refine wpAnyH_ready (rs := [2]) (by kernel_rfl) (by simp) ?_
                  refine AllReadyH.cons (o := ⟨some 76, _, _, _, _, _⟩) rfl (fun K hK => ?_) ?_
                  · have q2 := (blk_cell PP79.out (j := 2) (u := .slice A9 sg.length c9) rfl).1
                    go_simp
                    refine hK.out _ _ ?_ (fun hHeld => ?_)
                    · exact ⟨(KK77.out.cell (p := ⟨w3.heap.size, 0, none⟩) (by dsimp only; omega)).trans x0, (KK77.out.cell (p := ⟨w3.heap.size, 1, none⟩) (by dsimp only; omega)).trans x1, (KK77.out.cell (p := ⟨w3.heap.size, 3, none⟩) (by dsimp only; omega)).trans x3, (KK77.out.cell (p := ⟨w1.heap.size + 1, 0, none⟩) (by dsimp only; omega)).trans a0, (KK77.out.cell (p := ⟨w1.heap.size + 1, 1, none⟩) (by dsimp only; omega)).trans a1, hbW.trans (KK77.out.mono hbW.size)⟩
                    clear hK K q2
                    try simp only [Act.put, List.setIfInBounds_toArray, List.set_cons_zero, List.set_cons_succ]
                    refine wpAnyH_ready (rs := [3]) (by kernel_rfl) (by simp) ?_
                    refine AllReadyH.cons (o := ⟨some 77, _, _, _, _, _⟩) rfl (fun K hK => ?_) ?_
                    · refine step_append_full (by rfl) _ _ (by rfl) w4.heap.size i0 _ 9 72 und_sgs und_sgs ki kz0 kz1 kz2 rfl (by omega) (.slice (some ⟨w4.heap.size + 1, 0, none⟩) 0 0) (0) ([]) (by rfl) EE80.out A9 sg.length c9 (flatG sg) (by rfl) flen (NWS.out _ KK77.out) fone hnil (by simp [maxLen]; omega) (by omega) (KK77.out.size) ?_
                      intro aB cB wB apB
                      simp only [Nat.zero_add, List.nil_append] at apB ⊢
                      have KK81 := Lib.hid (KK77.out.grown apB.grew KK77.out.size (fun k e => (EE80.out.lt k e).1))
                      have zB : w4.heap.size + 1 + 1 ≤ wB.heap.size := by have h := apB.grew.size; (try simp at h); omega
                      have NN82 := Lib.hid ((apB.grew.block (w4.heap.size) (by first | (simp; done) | (simp; omega) | omega) (by first | (simp [Value.ownBlock]; done) | (simp [Value.ownBlock]; omega))).trans NN78.out)
                      have PP83 := Lib.hid ((apB.grew.block (w3.heap.size) (by first | (simp; done) | (simp; omega) | omega) (by first | (simp [Value.ownBlock]; done) | (simp [Value.ownBlock]; omega))).trans PP79.out)
                      have EE84 := Lib.hid apB.row
                      refine hK.out _ _ ?_ (fun hHeld => ?_)
                      · exact ⟨(KK81.out.cell (p := ⟨w3.heap.size, 0, none⟩) (by dsimp only; omega)).trans x0, (KK81.out.cell (p := ⟨w3.heap.size, 1, none⟩) (by dsimp only; omega)).trans x1, (KK81.out.cell (p := ⟨w3.heap.size, 3, none⟩) (by dsimp only; omega)).trans x3, (KK81.out.cell (p := ⟨w1.heap.size + 1, 0, none⟩) (by dsimp only; omega)).trans a0, (KK81.out.cell (p := ⟨w1.heap.size + 1, 1, none⟩) (by dsimp only; omega)).trans a1, hbW.trans (KK81.out.mono hbW.size)⟩
                      clear hK K
                      try simp only [Act.put, List.setIfInBounds_toArray, List.set_cons_zero, List.set_cons_succ]
                      refine wpAnyH_ready (rs := [10]) (by kernel_rfl) (by simp) ?_
                      refine AllReadyH.cons (o := ⟨some 84, _, _, _, _, _⟩) rfl (fun K hK => ?_) ?_
                      · refine step_append_full (by rfl) _ _ (by rfl) w4.heap.size i0 _ 9 72 und_sgs und_sgs ki kz0 kz1 kz2 rfl (by omega) (.slice aB (sg.length) cB) (sg.length) (flatG sg) (by rfl) EE84.out (some ⟨w4.heap.size, 0, none⟩) 1 1 [.int .i64 ax, .int .i64 ay, .int .i64 px, .int .i64 py, .int .i64 0, .int .i64 0, .int .i64 0, .int .i64 0, .int .i64 2] (by rfl) (by rfl) (fun j u hu => ⟨_, rfl, World.news_of_block (cs := #[.int .i64 ax, .int .i64 ay, .int .i64 px, .int .i64 py, .int .i64 0, .int .i64 0, .int .i64 0, .int .i64 0, .int .i64 2]) (t := 54) (fr := (0, 0)) NN82.out j u hu⟩) (by simp [Value.oneCell']) (by simp) (by simp [maxLen]; omega) (by omega) (KK81.out.size) ?_
                        intro aD cD wD apD
                        have KK85 := Lib.hid (KK81.out.grown apD.grew KK81.out.size (fun k e => (EE84.out.lt k e).1))
                        have zD : wB.heap.size ≤ wD.heap.size := by have h := apD.grew.size; (try simp at h); omega
                        have PP86 := Lib.hid ((apD.grew.block (w3.heap.size) (by first | (simp; done) | (simp; omega) | omega) (fun e => by first | (have h := (apB.row.lt _ e.symm).2; omega) | (have h := (apB.row.lt _ e.symm).1; omega) | (rcases apB.own with k | k <;> (rw [k] at e; simp [Value.ownBlock] at e; try omega)))).trans PP83.out)
                        have EE87 := Lib.hid apD.row
                        refine hK.out _ _ ?_ (fun hHeld => ?_)
                        · exact ⟨(KK85.out.cell (p := ⟨w3.heap.size, 0, none⟩) (by dsimp only; omega)).trans x0, (KK85.out.cell (p := ⟨w3.heap.size, 1, none⟩) (by dsimp only; omega)).trans x1, (KK85.out.cell (p := ⟨w3.heap.size, 3, none⟩) (by dsimp only; omega)).trans x3, (KK85.out.cell (p := ⟨w1.heap.size + 1, 0, none⟩) (by dsimp only; omega)).trans a0, (KK85.out.cell (p := ⟨w1.heap.size + 1, 1, none⟩) (by dsimp only; omega)).trans a1, hbW.trans (KK85.out.mono hbW.size)⟩
                        clear hK K
                        try simp only [Act.put, List.setIfInBounds_toArray, List.set_cons_zero, List.set_cons_succ]
                        refine wpAnyH_take (i := 11) (oi := ⟨some 85, _, _, _, _, _⟩) (v := ?_) rfl (by kernel_rfl) (by kernel_rfl) (by kernel_rfl) (fun _ _ _ h => h) (Or.inl ⟨by rfl, ?_⟩) (by assumption) ?_
                        rotate_left
                        · (intro w hSw; (try dsimp only at hSw); go_simp; (try with_reducible rfl))
                        try simp only [Act.put, List.setIfInBounds_toArray, List.set_cons_zero, List.set_cons_succ]
                        refine wpAnyH_ready (rs := [12]) (by kernel_rfl) (by simp) ?_
                        refine AllReadyH.cons (o := ⟨none, _, _, _, _, _⟩) rfl (fun K hK => ?_) ?_
                        · have q2 := blk_cell PP86.out (j := 2) (u := .slice A9 sg.length c9) rfl
                          obtain ⟨q2, f2⟩ := q2
                          go_simp
                          refine hK.out _ _ ?_ (fun hHeld => ?_)
                          · exact ⟨(World.cell?_setCell_other _ _ _ _ (by simp)).trans ((KK85.out.cell (p := ⟨w3.heap.size, 0, none⟩) (by dsimp only; omega)).trans x0), (World.cell?_setCell_other _ _ _ _ (by simp)).trans ((KK85.out.cell (p := ⟨w3.heap.size, 1, none⟩) (by dsimp only; omega)).trans x1), (World.cell?_setCell_other _ _ _ _ (by simp)).trans ((KK85.out.cell (p := ⟨w3.heap.size, 3, none⟩) (by dsimp only; omega)).trans x3), (World.cell?_setCell_far _ _ _ _ (by (try dsimp only); omega)).trans ((KK85.out.cell (p := ⟨w1.heap.size + 1, 0, none⟩) (by dsimp only; omega)).trans a0), (World.cell?_setCell_far _ _ _ _ (by (try dsimp only); omega)).trans ((KK85.out.cell (p := ⟨w1.heap.size + 1, 1, none⟩) (by dsimp only; omega)).trans a1), (hbW.trans (KK85.out.mono hbW.size)).setCell (Nat.le_refl _) _⟩
                          clear hK K
                          try simp only [Act.put, List.setIfInBounds_toArray, List.set_cons_zero, List.set_cons_succ]
                          refine wpAnyH_done (by kernel_rfl) ?_ _
                          go_wp2_with fail
                          go_meet
                          have hrow := EE87.out
                          rw [← FLS.out] at hrow
                          exact ⟨rfl, close_box PP86.out hrow (by omega) (by omega) (by omega) (by omega) (Nat.le_refl _) (hbW.trans (KK85.out.mono hbW.size))⟩
                        exact AllReadyH.nil
                      exact AllReadyH.nil
                    exact AllReadyH.nil
                  exact AllReadyH.nil
                refine AllReadyH.cons (o := ⟨some 76, _, _, _, _, _⟩) rfl (fun K hK => ?_) ?_
                · have q2 := (blk_cell PP75.out (j := 2) (u := .slice A9 sg.length c9) rfl).1
                  go_simp
                  refine hK.out _ _ ?_ (fun hHeld => ?_)
                  · exact ⟨(KK74.out.cell (p := ⟨w3.heap.size, 0, none⟩) (by dsimp only; omega)).trans x0, (KK74.out.cell (p := ⟨w3.heap.size, 1, none⟩) (by dsimp only; omega)).trans x1, (KK74.out.cell (p := ⟨w3.heap.size, 3, none⟩) (by dsimp only; omega)).trans x3, (KK74.out.cell (p := ⟨w1.heap.size + 1, 0, none⟩) (by dsimp only; omega)).trans a0, (KK74.out.cell (p := ⟨w1.heap.size + 1, 1, none⟩) (by dsimp only; omega)).trans a1, hbW.trans (KK74.out.mono hbW.size)⟩
                  clear hK K q2
                  try simp only [Act.put, List.setIfInBounds_toArray, List.set_cons_zero, List.set_cons_succ]
                  refine wpAnyH_ready (rs := [0]) (by kernel_rfl) (by simp) ?_
                  refine AllReadyH.cons (o := ⟨some 74, _, _, _, _, _⟩) rfl (fun K hK => ?_) ?_
                  · go_simp
                    refine hK.out _ _ ?_ (fun hHeld => ?_)
                    · exact ⟨((KK74.out.alloc KK74.out.size _).cell (p := ⟨w3.heap.size, 0, none⟩) (by dsimp only; omega)).trans x0, ((KK74.out.alloc KK74.out.size _).cell (p := ⟨w3.heap.size, 1, none⟩) (by dsimp only; omega)).trans x1, ((KK74.out.alloc KK74.out.size _).cell (p := ⟨w3.heap.size, 3, none⟩) (by dsimp only; omega)).trans x3, ((KK74.out.alloc KK74.out.size _).cell (p := ⟨w1.heap.size + 1, 0, none⟩) (by dsimp only; omega)).trans a0, ((KK74.out.alloc KK74.out.size _).cell (p := ⟨w1.heap.size + 1, 1, none⟩) (by dsimp only; omega)).trans a1, hbW.trans ((KK74.out.alloc KK74.out.size _).mono hbW.size)⟩
                    clear hK K
                    try simp only [Act.put, List.setIfInBounds_toArray, List.set_cons_zero, List.set_cons_succ]
                    have KK88 := Lib.hid (KK74.out.alloc KK74.out.size (Obj.cells #[] 54))
                    have NN89 := Lib.hid (blk_alloc NN76.out (Obj.cells #[] 54))
                    have PP90 := Lib.hid (blk_alloc PP75.out (Obj.cells #[] 54))
                    have EE91 := Lib.hid (own_made' (w4.drew.alloc (Obj.cells #[.int .i64 ax, .int .i64 ay, .int .i64 px, .int .i64 py, .int .i64 0, .int .i64 0, .int .i64 0, .int .i64 0, .int .i64 2] 54)) 54 w4.heap.size 9 (w4.heap.size + 1) (by first | (simp; done) | (simp; omega) | omega) KK74.out.size)
                    refine wpAnyH_ready (rs := [3]) (by kernel_rfl) (by simp) ?_
                    refine AllReadyH.cons (o := ⟨some 77, _, _, _, _, _⟩) rfl (fun K hK => ?_) ?_
                    · refine step_append_full (by rfl) _ _ (by rfl) w4.heap.size i0 _ 9 72 und_sgs und_sgs ki kz0 kz1 kz2 rfl (by omega) (.slice (some ⟨w4.heap.size + 1, 0, none⟩) 0 0) (0) ([]) (by rfl) EE91.out A9 sg.length c9 (flatG sg) (by rfl) flen (NWS.out _ KK88.out) fone hnil (by simp [maxLen]; omega) (by omega) (KK88.out.size) ?_
                      intro aB cB wB apB
                      simp only [Nat.zero_add, List.nil_append] at apB ⊢
                      have KK92 := Lib.hid (KK88.out.grown apB.grew KK88.out.size (fun k e => (EE91.out.lt k e).1))
                      have zB : w4.heap.size + 1 + 1 ≤ wB.heap.size := by have h := apB.grew.size; (try simp at h); omega
                      have NN93 := Lib.hid ((apB.grew.block (w4.heap.size) (by first | (simp; done) | (simp; omega) | omega) (by first | (simp [Value.ownBlock]; done) | (simp [Value.ownBlock]; omega))).trans NN89.out)
                      have PP94 := Lib.hid ((apB.grew.block (w3.heap.size) (by first | (simp; done) | (simp; omega) | omega) (by first | (simp [Value.ownBlock]; done) | (simp [Value.ownBlock]; omega))).trans PP90.out)
                      have EE95 := Lib.hid apB.row
                      refine hK.out _ _ ?_ (fun hHeld => ?_)
                      · exact ⟨(KK92.out.cell (p := ⟨w3.heap.size, 0, none⟩) (by dsimp only; omega)).trans x0, (KK92.out.cell (p := ⟨w3.heap.size, 1, none⟩) (by dsimp only; omega)).trans x1, (KK92.out.cell (p := ⟨w3.heap.size, 3, none⟩) (by dsimp only; omega)).trans x3, (KK92.out.cell (p := ⟨w1.heap.size + 1, 0, none⟩) (by dsimp only; omega)).trans a0, (KK92.out.cell (p := ⟨w1.heap.size + 1, 1, none⟩) (by dsimp only; omega)).trans a1, hbW.trans (KK92.out.mono hbW.size)⟩
                      clear hK K
                      try simp only [Act.put, List.setIfInBounds_toArray, List.set_cons_zero, List.set_cons_succ]
                      refine wpAnyH_ready (rs := [10]) (by kernel_rfl) (by simp) ?_
                      refine AllReadyH.cons (o := ⟨some 84, _, _, _, _, _⟩) rfl (fun K hK => ?_) ?_
                      · refine step_append_full (by rfl) _ _ (by rfl) w4.heap.size i0 _ 9 72 und_sgs und_sgs ki kz0 kz1 kz2 rfl (by omega) (.slice aB (sg.length) cB) (sg.length) (flatG sg) (by rfl) EE95.out (some ⟨w4.heap.size, 0, none⟩) 1 1 [.int .i64 ax, .int .i64 ay, .int .i64 px, .int .i64 py, .int .i64 0, .int .i64 0, .int .i64 0, .int .i64 0, .int .i64 2] (by rfl) (by rfl) (fun j u hu => ⟨_, rfl, World.news_of_block (cs := #[.int .i64 ax, .int .i64 ay, .int .i64 px, .int .i64 py, .int .i64 0, .int .i64 0, .int .i64 0, .int .i64 0, .int .i64 2]) (t := 54) (fr := (0, 0)) NN93.out j u hu⟩) (by simp [Value.oneCell']) (by simp) (by simp [maxLen]; omega) (by omega) (KK92.out.size) ?_
                        intro aD cD wD apD
                        have KK96 := Lib.hid (KK92.out.grown apD.grew KK92.out.size (fun k e => (EE95.out.lt k e).1))
                        have zD : wB.heap.size ≤ wD.heap.size := by have h := apD.grew.size; (try simp at h); omega
                        have PP97 := Lib.hid ((apD.grew.block (w3.heap.size) (by first | (simp; done) | (simp; omega) | omega) (fun e => by first | (have h := (apB.row.lt _ e.symm).2; omega) | (have h := (apB.row.lt _ e.symm).1; omega) | (rcases apB.own with k | k <;> (rw [k] at e; simp [Value.ownBlock] at e; try omega)))).trans PP94.out)
                        have EE98 := Lib.hid apD.row
                        refine hK.out _ _ ?_ (fun hHeld => ?_)
                        · exact ⟨(KK96.out.cell (p := ⟨w3.heap.size, 0, none⟩) (by dsimp only; omega)).trans x0, (KK96.out.cell (p := ⟨w3.heap.size, 1, none⟩) (by dsimp only; omega)).trans x1, (KK96.out.cell (p := ⟨w3.heap.size, 3, none⟩) (by dsimp only; omega)).trans x3, (KK96.out.cell (p := ⟨w1.heap.size + 1, 0, none⟩) (by dsimp only; omega)).trans a0, (KK96.out.cell (p := ⟨w1.heap.size + 1, 1, none⟩) (by dsimp only; omega)).trans a1, hbW.trans (KK96.out.mono hbW.size)⟩
                        clear hK K
                        try simp only [Act.put, List.setIfInBounds_toArray, List.set_cons_zero, List.set_cons_succ]
                        refine wpAnyH_take (i := 11) (oi := ⟨some 85, _, _, _, _, _⟩) (v := ?_) rfl (by kernel_rfl) (by kernel_rfl) (by kernel_rfl) (fun _ _ _ h => h) (Or.inl ⟨by rfl, ?_⟩) (by assumption) ?_
                        rotate_left
                        · (intro w hSw; (try dsimp only at hSw); go_simp; (try with_reducible rfl))
                        try simp only [Act.put, List.setIfInBounds_toArray, List.set_cons_zero, List.set_cons_succ]
                        refine wpAnyH_ready (rs := [12]) (by kernel_rfl) (by simp) ?_
                        refine AllReadyH.cons (o := ⟨none, _, _, _, _, _⟩) rfl (fun K hK => ?_) ?_
                        · have q2 := blk_cell PP97.out (j := 2) (u := .slice A9 sg.length c9) rfl
                          obtain ⟨q2, f2⟩ := q2
                          go_simp
                          refine hK.out _ _ ?_ (fun hHeld => ?_)
                          · exact ⟨(World.cell?_setCell_other _ _ _ _ (by simp)).trans ((KK96.out.cell (p := ⟨w3.heap.size, 0, none⟩) (by dsimp only; omega)).trans x0), (World.cell?_setCell_other _ _ _ _ (by simp)).trans ((KK96.out.cell (p := ⟨w3.heap.size, 1, none⟩) (by dsimp only; omega)).trans x1), (World.cell?_setCell_other _ _ _ _ (by simp)).trans ((KK96.out.cell (p := ⟨w3.heap.size, 3, none⟩) (by dsimp only; omega)).trans x3), (World.cell?_setCell_far _ _ _ _ (by (try dsimp only); omega)).trans ((KK96.out.cell (p := ⟨w1.heap.size + 1, 0, none⟩) (by dsimp only; omega)).trans a0), (World.cell?_setCell_far _ _ _ _ (by (try dsimp only); omega)).trans ((KK96.out.cell (p := ⟨w1.heap.size + 1, 1, none⟩) (by dsimp only; omega)).trans a1), (hbW.trans (KK96.out.mono hbW.size)).setCell (Nat.le_refl _) _⟩
                          clear hK K
                          try simp only [Act.put, List.setIfInBounds_toArray, List.set_cons_zero, List.set_cons_succ]
                          refine wpAnyH_done (by kernel_rfl) ?_ _
                          go_wp2_with fail
                          go_meet
                          have hrow := EE98.out
                          rw [← FLS.out] at hrow
                          exact ⟨rfl, close_box PP97.out hrow (by omega) (by omega) (by omega) (by omega) (Nat.le_refl _) (hbW.trans (KK96.out.mono hbW.size))⟩
                        exact AllReadyH.nil
                      exact AllReadyH.nil
                    exact AllReadyH.nil
                  exact AllReadyH.nil
                exact AllReadyH.nil
              exact AllReadyH.nil
            case rest =>
              obtain ⟨rfl, aD, cD, ⟨x0, x1, x2, x3⟩, hsD, hfD, hbW⟩ := hcut
              have hsv5 : (Value.slice aD (sg ++ [((((ax, ay), (px, py), zP, zP), 2) : SegV)]).length cD).ownBlock ≠ some (w1.heap.size + 1) := by
                cases aD with
                | none => intro k; cases k
                | some ad => intro k; exact (hfD ad rfl).2.2.2 (Option.some.inj k)
              obtain ⟨w5, hw5⟩ : ∃ w5 : World, w5 = wc := ⟨_, rfl⟩
              subst hw5
              obtain ⟨LL, hLL⟩ : ∃ LL, (sg ++ [((((ax, ay), (px, py), zP, zP), 2) : SegV)]).length = LL := ⟨_, rfl⟩
              rw [hLL] at x2
              have HLL := Lib.hid hLL
              clear hLL
              have hgl2 := Nat.lt_of_lt_of_le (HSP.out.row.lt gv rfl).2 hbW.size
              have hgl3 := (HSP.out.row.lt gv rfl).2
              have y0x := (hbW.cell (p := ⟨gv, q * 4, none⟩) hgl3).trans y0
              have y1x := (hbW.cell (p := ⟨gv, q * 4 + 1, none⟩) hgl3).trans y1
              have y2x := (hbW.cell (p := ⟨gv, q * 4 + 2, none⟩) hgl3).trans y2
              have y3x := (hbW.cell (p := ⟨gv, q * 4 + 3, none⟩) hgl3).trans y3
              have f0x := (HSP.out.step hbW).row.frozenAt (q * 4)
              have f1x := (HSP.out.step hbW).row.frozenAt (q * 4 + 1)
              have f2x := (HSP.out.step hbW).row.frozenAt (q * 4 + 2)
              have f3x := (HSP.out.step hbW).row.frozenAt (q * 4 + 3)
              have hcl5 := (HSP.out.step hbW).close (sg ++ [((((ax, ay), (px, py), zP, zP), 2) : SegV)]) aD cD (hsD) (fun ad e => ⟨(hfD ad e).1, (hfD ad e).2.1, (hfD ad e).2.2.1⟩)
              rw [HQ1.out] at hcl5
              have hA5 := HA3.out.step hbW hG3
              have hszW := hA5.bel.size
              have HCL5 := Lib.hid hcl5
              have HA6 := Lib.hid ((((hA5.far (b := gv) (fun k => hgg k.symm) hgB hszW (q * 4) (.int .i64 px)).far (b := gv) (fun k => hgg k.symm) hgB (by simpa [World.setCell] using hszW) (q * 4 + 1) (.int .i64 py)).far (b := gv) (fun k => hgg k.symm) hgB (by simpa [World.setCell] using hszW) (q * 4 + 2) (.slice aD (sg ++ [((((ax, ay), (px, py), zP, zP), 2) : SegV)]).length cD)).far (b := gv) (fun k => hgg k.symm) hgB (by simpa [World.setCell] using hszW) (q * 4 + 3) (.bool true))
              rw [HLL.out] at hcl5
              have HCL5 := Lib.hid hcl5
              have hA6 := HA6.out
              rw [HLL.out] at hA6
              have HA6 := Lib.hid hA6
              clear hA6
              clear hcl5 hA5 y0 y1 y2 y3
              go_wp2
              go_roundw
              case rel => exact ⟨i + 1, n, o ++ [((px, py), sg ++ [((((ax, ay), (px, py), zP, zP), 2) : SegV)], true)], (ax, ay), 5, by go_num, rfl, by omega, by omega, ⟨T3.out, ND.out, RUN2.out⟩, .inl ⟨rfl, cs ++ subC ((px, py), sg ++ [((((ax, ay), (px, py), zP, zP), 2) : SegV)], true) aD cD, by rw [← HM1.out, HQ1.out]; exact HCL5.out, hcl.app (clear_four _ _ _ _ hsv5), hov⟩, HA6.out, ⟨by simp; omega, by simp; omega, fun x hx => by
                rcases List.mem_append.1 hx with e | e
                · have := hlm x (List.mem_append_left _ e); omega
                · rw [List.mem_singleton] at e; subst e; simp; omega⟩⟩
              case measure => simp [intOf]; omega
      · rcases hv3 with rfl | rfl | rfl
        · rw [takes_2] at hnd
          obtain ⟨⟨p0, q0⟩, hp0⟩ : ∃ p, ps[n]? = some p := ⟨_, List.getElem?_eq_getElem (by rw [HM.out]; omega)⟩
          obtain ⟨adp, rfl, hBp, g0, h0⟩ := (HQ.out.step hbw).at_ hp0
          dsimp only at g0 h0
          have hadp : ∀ j, (adp.add j).block < w.heap.size := fun j => by rw [block_add]; exact hBp
          obtain ⟨o, pp, sg, cs, sv, rfl, hsp0, hcl, hov, hsv⟩ := HST.out.open_ (T2.out (by decide))
          obtain ⟨gv, cap, rfl, hgB, hgl⟩ := hsp0.row.form (by omega)
          have hne : sv.ownBlock ≠ some gv := fun k => hsp0.ne gv k rfl
          have hgg : gv ≠ w1.heap.size + 1 := fun k => hov (by rw [k]; rfl)
          obtain ⟨m1, hm1⟩ : ∃ m1, o.length + 1 = m1 := ⟨_, rfl⟩
          rw [List.length_append, List.length_cons, List.length_nil] at hlo
          have TK0 := fun w => r7takes_any 2 w
          simp only [takes_2] at TK0
          have TK := Lib.hid TK0
          have hdr : ps.drop n = segPs ((((ax, ay), (p0, q0), zP, zP), 2) : SegV) ++ ps.drop (n + 1) := by rw [drop_at hp0]; rfl
          have RUN := Lib.hid (show (runP (vs.drop (i + 1)) (o ++ [(pp, sg ++ [((((ax, ay), (p0, q0), zP, zP), 2) : SegV)], false)], (p0, q0), ps.drop (n + 1))).1 = F by
            have h9 := HRUN.out
            rw [hdr] at h9
            have h8 := step_seg ((((ax, ay), (p0, q0), zP, zP), 2) : SegV) (ax, ay) o pp sg (ps.drop (n + 1)) rfl (by first | exact .inl rfl | exact .inr (.inl rfl) | exact .inr (.inr rfl))
            dsimp only at h8
            rw [h8] at h9
            exact h9)
          have ND := Lib.hid (show needs (vs.drop (i + 1)) = (M : Int) - ((n + 1 : Nat) : Int) by omega)
          have hn1 : n + 1 ≤ M := by omega
          clear HRUN hp0 TK0 hnd hnn t1 hdr
          have r1 : IntKind.i64.wrap ((n : Int) + 1) = (n : Int) + 1 := IntWalk.i64_in _ (by omega)
          have r2 : (0 : Int) ≤ (n : Int) := by omega
          have r3 : ¬ (n : Int) = (cp : Int) := by omega
          have r4 : ¬ n = cp := by omega
          have r5 : ((n : Int) + 1).toNat = n + 1 := by omega
          go_wp2_with fail
          refine (TK.out _).mono ?_
          rintro e w3 ⟨rfl, h3⟩
          replace e0 := (h3.cell (p := ⟨w.heap.size, 0, none⟩) (by (have ha := hadp (n * 2)); (have ha1 := hadp ((n + 1) * 2)); (have ha2 := hadp ((n + 2) * 2)); (try dsimp only); omega)).trans e0
          replace e1 := (h3.cell (p := ⟨w.heap.size, 1, none⟩) (by (have ha := hadp (n * 2)); (have ha1 := hadp ((n + 1) * 2)); (have ha2 := hadp ((n + 2) * 2)); (try dsimp only); omega)).trans e1
          replace c3 := (h3.cell (p := ad.add i) (by (have ha := hadp (n * 2)); (have ha1 := hadp ((n + 1) * 2)); (have ha2 := hadp ((n + 2) * 2)); (try dsimp only); omega)).trans c3
          replace g0 := (h3.cell (p := adp.add (n * 2)) (by (have ha := hadp (n * 2)); (have ha1 := hadp ((n + 1) * 2)); (have ha2 := hadp ((n + 2) * 2)); (try dsimp only); omega)).trans g0
          replace h0 := (h3.cell (p := ⟨(adp.add (n * 2)).block, (adp.add (n * 2)).off + 1, none⟩) (by (have ha := hadp (n * 2)); (have ha1 := hadp ((n + 1) * 2)); (have ha2 := hadp ((n + 2) * 2)); (try dsimp only); omega)).trans h0
          have hG3 : w1.heap.size ≤ w3.heap.size := Nat.le_trans hGr h3.size
          have hb3 := hbw.trans (h3.mono hbw.size)
          have hsp3 := hsp0.step h3
          have hAT := HAT.out.step h3 hGr
          have hgs := hAT.sz
          have a0 := hAT.c0
          have a1 := hAT.c1
          have b0 := hAT.f0
          have b1 := hAT.f1
          have HSP := Lib.hid hsp3
          have HA3 := Lib.hid hAT
          clear hsp0 hsp3 hAT h3
          have ho0 := fun o => (World.cell?_alloc_old w3 o ⟨w1.heap.size + 1, 0, none⟩ (by dsimp only; omega)).trans a0
          have ho1 := fun o => (World.cell?_alloc_old w3 o ⟨w1.heap.size + 1, 1, none⟩ (by dsimp only; omega)).trans a1
          go_upto_region 26 with fail
          refine any_gen (fun z => SegBox w3.heap.size (((ax, ay), zP, zP, zP), 2) w3 z) ⟨by simp [go_sem, zP], by simp [go_sem, zP], by simp [go_sem, zP], by simp [go_sem, zP], by simp [go_sem, zP], by simp [go_sem, zP], by simp [go_sem, zP], by simp [go_sem, zP], by simp [go_sem, zP], fun j => by simp, by repeat (first | exact Below.refl _ _ | refine below_dN ?_ _ | refine Below.setCell ?_ (by simp; try omega) _ | refine Below.alloc ?_ (by simp; try omega) _), by simp⟩ ?_
          rintro w4 hS0
          have HS0 := Lib.hid hS0
          clear hS0 a0 a1 ho0 ho1 b0 b1 c3 e0 e1
          go_wp2
          go_loopw [13] (fun s13 wx => ∃ j : Nat, j ≤ 1 ∧ s13 = .int .i64 j ∧ SegBox w3.heap.size (((ax, ay), pick [(p0, q0)] j 0, pick [(p0, q0)] j 1, pick [(p0, q0)] j 2), 2) w3 wx) (fun s13 _ => 1 - (intOf s13).toNat)
          case atStart => exact ⟨0, by omega, rfl, HS0.out⟩
          case round =>
            obtain ⟨j, hj, rfl, hS⟩ := hrel
            obtain ⟨w5, hw5⟩ : ∃ w5 : World, w5 = wr := ⟨_, rfl⟩
            subst hw5
            have hzz := hS.bel.size
            have hadm := hadp (n * 2)
            have g0x : w5.cell? (adp.add (n * 2)) = some (.int .i64 p0) := (hS.bel.cell (p := adp.add (n * 2)) (by omega)).trans g0
            have h0x : w5.cell? ⟨(adp.add (n * 2)).block, (adp.add (n * 2)).off + 1, none⟩ = some (.int .i64 q0) := (hS.bel.cell (p := ⟨(adp.add (n * 2)).block, (adp.add (n * 2)).off + 1, none⟩) (by dsimp only; omega)).trans h0
            clear hadm
            obtain rfl | rfl : j = 0 ∨ j = 1 := by omega
            · have u2 : w5.cell? ⟨w3.heap.size, 2, none⟩ = some (.int .i64 0) := hS.c2
              have u3 : w5.cell? ⟨w3.heap.size, 3, none⟩ = some (.int .i64 0) := hS.c3
              have f2 := hS.fz 2
              have f3 := hS.fz 3
              have hS1 := hS.put1 (p0, q0)
              go_wp2
              go_roundw
              case rel => exact ⟨1, by omega, rfl, hS1⟩
              case measure => simp [intOf]
            · have hS9 : SegBox w3.heap.size ((((ax, ay), (p0, q0), zP, zP), 2) : SegV) w3 w5 := hS
              have hA5 := HA3.out.step hS9.bel hG3
              have hsp5 := HSP.out.step hS9.bel
              have a0 := hA5.c0
              have a1 := hA5.c1
              have b0 := hA5.f0
              have b1 := hA5.f1
              have hA6 := Lib.hid (hA5.put (p0, q0) (by omega))
              have HSP6 := Lib.hid ((hsp5.put hov hcl hsv 0 (.int .i64 p0)).put hov hcl hsv 1 (.int .i64 q0))
              have y0 : w5.cell? ⟨w3.heap.size, 0, none⟩ = some (.int .i64 ax) := hS9.c0
              have y1 : w5.cell? ⟨w3.heap.size, 1, none⟩ = some (.int .i64 ay) := hS9.c1
              have y2 : w5.cell? ⟨w3.heap.size, 2, none⟩ = some (.int .i64 p0) := hS9.c2
              have y3 : w5.cell? ⟨w3.heap.size, 3, none⟩ = some (.int .i64 q0) := hS9.c3
              have y4 : w5.cell? ⟨w3.heap.size, 4, none⟩ = some (.int .i64 0) := hS9.c4
              have y5 : w5.cell? ⟨w3.heap.size, 5, none⟩ = some (.int .i64 0) := hS9.c5
              have y6 : w5.cell? ⟨w3.heap.size, 6, none⟩ = some (.int .i64 0) := hS9.c6
              have y7 : w5.cell? ⟨w3.heap.size, 7, none⟩ = some (.int .i64 0) := hS9.c7
              have y8 : w5.cell? ⟨w3.heap.size, 8, none⟩ = some (.int .i64 2) := hS9.c8
              have hszz := hS9.sz
              have hd1 : w1.heap.size + 1 ≠ w3.heap.size := by omega
              clear hS hS9 hA5 hsp5
              go_upto_region 30 with fail
              refine any_gen (fun z => (z.cell? ⟨w3.heap.size, 0, none⟩ = some (.int .i64 ax) ∧ z.cell? ⟨w3.heap.size, 1, none⟩ = some (.int .i64 ay) ∧ z.cell? ⟨w3.heap.size, 2, none⟩ = some (.int .i64 p0) ∧ z.cell? ⟨w3.heap.size, 3, none⟩ = some (.int .i64 q0) ∧ z.cell? ⟨w3.heap.size, 4, none⟩ = some (.int .i64 0) ∧ z.cell? ⟨w3.heap.size, 5, none⟩ = some (.int .i64 0) ∧ z.cell? ⟨w3.heap.size, 6, none⟩ = some (.int .i64 0) ∧ z.cell? ⟨w3.heap.size, 7, none⟩ = some (.int .i64 0) ∧ z.cell? ⟨w3.heap.size, 8, none⟩ = some (.int .i64 2)) ∧ SpS w1.heap.size o pp sg z (.slice (some ⟨gv, 0, none⟩) (o.length + 1) cap) cs sv ∧ AtB (w1.heap.size + 1) w1.heap.size (p0, q0) w1 z ∧ w3.heap.size < z.heap.size) ⟨⟨(World.cell?_setCell_far _ _ _ _ (by dsimp only; omega)).trans ((World.cell?_setCell_far _ _ _ _ (by dsimp only; omega)).trans y0), (World.cell?_setCell_far _ _ _ _ (by dsimp only; omega)).trans ((World.cell?_setCell_far _ _ _ _ (by dsimp only; omega)).trans y1), (World.cell?_setCell_far _ _ _ _ (by dsimp only; omega)).trans ((World.cell?_setCell_far _ _ _ _ (by dsimp only; omega)).trans y2), (World.cell?_setCell_far _ _ _ _ (by dsimp only; omega)).trans ((World.cell?_setCell_far _ _ _ _ (by dsimp only; omega)).trans y3), (World.cell?_setCell_far _ _ _ _ (by dsimp only; omega)).trans ((World.cell?_setCell_far _ _ _ _ (by dsimp only; omega)).trans y4), (World.cell?_setCell_far _ _ _ _ (by dsimp only; omega)).trans ((World.cell?_setCell_far _ _ _ _ (by dsimp only; omega)).trans y5), (World.cell?_setCell_far _ _ _ _ (by dsimp only; omega)).trans ((World.cell?_setCell_far _ _ _ _ (by dsimp only; omega)).trans y6), (World.cell?_setCell_far _ _ _ _ (by dsimp only; omega)).trans ((World.cell?_setCell_far _ _ _ _ (by dsimp only; omega)).trans y7), (World.cell?_setCell_far _ _ _ _ (by dsimp only; omega)).trans ((World.cell?_setCell_far _ _ _ _ (by dsimp only; omega)).trans y8)⟩, HSP6.out, hA6.out, by simpa [World.setCell] using hszz⟩ ?_
              clear y0 y1 y2 y3 y4 y5 y6 y7 y8 a0 a1 b0 b1 hA6 HSP6 hszz
              rintro w6 ⟨⟨y0, y1, y2, y3, y4, y5, y6, y7, y8⟩, hsp6, hA6, hs6⟩
              have cv1 := hsp6.row.cells rfl (o.length * 4 + 2) sv (by have := hsp6.len; rw [List.getElem?_append_right (by omega), this]; simp)
              have hadd : (⟨gv, 0, none⟩ : Addr).add (o.length * 4 + 2) = ⟨gv, o.length * 4 + 2, none⟩ := by unfold Addr.add; simp
              rw [hadd] at cv1
              have fv1 := hsp6.row.frozenAt (o.length * 4 + 2)
              have hsd := hsp6.seg.drew
              have hszB : w1.heap.size ≤ w6.heap.size := hA6.bel.size
              have hlt6 := (hsp6.row.lt gv rfl).2
              have SP6 := Lib.hid hsp6
              have A6 := Lib.hid hA6
              have HM1 := Lib.hid hm1
              obtain ⟨q, hq⟩ : ∃ q, o.length = q := ⟨_, rfl⟩
              rw [hq] at cv1 fv1
              have HQ1 := Lib.hid hq
              have lo2 : sg.length ≤ i := hlm (pp, sg, false) (by simp)
              have i1 : IntKind.i64.wrap ((m1 : Int) - 1) = (q : Int) := by rw [IntWalk.i64_in _ (by omega)]; omega
              have i2 : (0 : Int) ≤ (q : Int) := by omega
              have i3 : (q : Int) < (m1 : Int) := by omega
              have cal : ∀ o : Obj, (w6.alloc o).cell? ⟨gv, q * 4 + 2, none⟩ = some sv := fun o => (World.cell?_alloc_old _ _ _ (by dsimp only; omega)).trans cv1
              have fal : ∀ o : Obj, (w6.alloc o).frozen? ⟨gv, q * 4 + 2, none⟩ = false := fun o => (World.frozen?_alloc_old _ _ _ (by dsimp only; omega)).trans fv1
              clear hsp6 hA6 hq hadd
              (try rw [hm1])
              clear hm1
              go_region_law (refine step_append_full (by rfl) _ _ (by rfl) w1.heap.size i0 _ 9 72 und_sgs und_sgs ki kz0 kz1 kz2 rfl (by omega) sv sg.length (flatG sg) (by rfl) (hsd.alloc _) (some ⟨w6.heap.size, 0, none⟩) 1 1 [.int .i64 ax, .int .i64 ay, .int .i64 p0, .int .i64 q0, .int .i64 0, .int .i64 0, .int .i64 0, .int .i64 0, .int .i64 2] (by rfl) (by rfl) (fun j u hu => ⟨_, rfl, World.news_of_block (cs := #[.int .i64 ax, .int .i64 ay, .int .i64 p0, .int .i64 q0, .int .i64 0, .int .i64 0, .int .i64 0, .int .i64 0, .int .i64 2]) (t := 54) (fr := (0, 0)) (heap_alloc_new w6.drew _) j u hu⟩) (by simp [Value.oneCell']) (by simp) (by simp [maxLen]; omega) (by omega) (by simp; omega) ?_; intro a7 c7 w7 ap7; have cv7 := ap7.grew.cell (a := ⟨gv, q * 4 + 2, none⟩) (cal _) (fun k => hne k.symm); have fv7 := (World.frozen?_of_block (a := ⟨gv, q * 4 + 2, none⟩) (ap7.grew.block gv (by simp; omega) (fun k => hne k.symm))).trans (fal _))
              all_goals
                have hq1 := HQ1.out
                have hm1 := HM1.out
                have hdal := ((Below.refl w6.heap.size w6).drew).alloc (Nat.le_refl _) (Obj.cells #[.int .i64 ax, .int .i64 ay, .int .i64 p0, .int .i64 q0, .int .i64 0, .int .i64 0, .int .i64 0, .int .i64 0, .int .i64 2] 54)
                have hmore := (SP6.out.step hdal).more ((((ax, ay), (p0, q0), zP, zP), 2) : SegV) ap7
                have hA7 := ((A6.out.step hdal hszB).grown ap7.grew (fun k => hsv k.symm) (ownsRow_ge hsd) (by simp; omega)).grown (grown_set7 w7 ⟨gv, o.length * 4 + 2, none⟩ (.slice a7 (sg.length + 1) c7)) (fun k => hgg (Option.some.inj k).symm) (fun k e => by have := Option.some.inj e; dsimp only at this; omega) (Nat.le_trans (by simp; omega) ap7.grew.size)
                have hsv7 : (Value.slice a7 (sg.length + 1) c7).ownBlock ≠ some (w1.heap.size + 1) := by
                  rcases ap7.own with k | k
                  · rw [k]; exact hsv
                  · rw [k]; intro e; have := Option.some.inj e; simp at this; omega
                have HMORE := Lib.hid hmore
                have HA7 := Lib.hid hA7
                clear hmore hA7 ap7 hdal
                rw [← hq1] at *
                clear hq1 hm1
                go_wp2
                go_roundw
                case rel => exact ⟨i + 1, n + 1, o ++ [(pp, sg ++ [(((ax, ay), (p0, q0), zP, zP), 2)], false)], (p0, q0), 2, by go_num, by go_num, by omega, by omega, ⟨T3.out, ND.out, RUN.out⟩, .inr ⟨o, pp, sg ++ [(((ax, ay), (p0, q0), zP, zP), 2)], cs, .slice a7 (sg.length + 1) c7, rfl, by rw [← HM1.out]; exact HMORE.out, hcl, hov, hsv7⟩, HA7.out, ⟨by simp; omega, by simp at hln ⊢; omega, fun x hx => by
                  rcases List.mem_append.1 hx with e | e
                  · have := hlm x (List.mem_append_left _ e); omega
                  · rw [List.mem_singleton] at e; subst e; simp; omega⟩⟩
                case measure => simp [intOf]; omega
        · rw [takes_3] at hnd
          obtain ⟨⟨p0, q0⟩, hp0⟩ : ∃ p, ps[n]? = some p := ⟨_, List.getElem?_eq_getElem (by rw [HM.out]; omega)⟩
          obtain ⟨adp, rfl, hBp, g0, h0⟩ := (HQ.out.step hbw).at_ hp0
          dsimp only at g0 h0
          obtain ⟨⟨p1, q1⟩, hp1⟩ : ∃ p, ps[n + 1]? = some p := ⟨_, List.getElem?_eq_getElem (by rw [HM.out]; omega)⟩
          obtain ⟨adq, eq, _, g1, h1⟩ := (HQ.out.step hbw).at_ hp1
          obtain rfl := Option.some.inj eq
          clear eq
          dsimp only at g1 h1
          have hadp : ∀ j, (adp.add j).block < w.heap.size := fun j => by rw [block_add]; exact hBp
          obtain ⟨o, pp, sg, cs, sv, rfl, hsp0, hcl, hov, hsv⟩ := HST.out.open_ (T2.out (by decide))
          obtain ⟨gv, cap, rfl, hgB, hgl⟩ := hsp0.row.form (by omega)
          have hne : sv.ownBlock ≠ some gv := fun k => hsp0.ne gv k rfl
          have hgg : gv ≠ w1.heap.size + 1 := fun k => hov (by rw [k]; rfl)
          obtain ⟨m1, hm1⟩ : ∃ m1, o.length + 1 = m1 := ⟨_, rfl⟩
          rw [List.length_append, List.length_cons, List.length_nil] at hlo
          have TK0 := fun w => r7takes_any 3 w
          simp only [takes_3] at TK0
          have TK := Lib.hid TK0
          have hdr : ps.drop n = segPs ((((ax, ay), (p0, q0), (p1, q1), zP), 3) : SegV) ++ ps.drop (n + 2) := by rw [drop_at hp0, drop_at hp1]; rfl
          have RUN := Lib.hid (show (runP (vs.drop (i + 1)) (o ++ [(pp, sg ++ [((((ax, ay), (p0, q0), (p1, q1), zP), 3) : SegV)], false)], (p1, q1), ps.drop (n + 2))).1 = F by
            have h9 := HRUN.out
            rw [hdr] at h9
            have h8 := step_seg ((((ax, ay), (p0, q0), (p1, q1), zP), 3) : SegV) (ax, ay) o pp sg (ps.drop (n + 2)) rfl (by first | exact .inl rfl | exact .inr (.inl rfl) | exact .inr (.inr rfl))
            dsimp only at h8
            rw [h8] at h9
            exact h9)
          have ND := Lib.hid (show needs (vs.drop (i + 1)) = (M : Int) - ((n + 2 : Nat) : Int) by omega)
          have hn1 : n + 2 ≤ M := by omega
          clear HRUN hp0 hp1 TK0 hnd hnn t1 hdr
          have r1 : IntKind.i64.wrap ((n : Int) + 2) = (n : Int) + 2 := IntWalk.i64_in _ (by omega)
          have r2 : (0 : Int) ≤ (n : Int) := by omega
          have r3 : ¬ (n : Int) = (cp : Int) := by omega
          have r4 : ¬ n = cp := by omega
          have r5 : ((n : Int) + 2).toNat = n + 2 := by omega
          go_wp2_with fail
          refine (TK.out _).mono ?_
          rintro e w3 ⟨rfl, h3⟩
          replace e0 := (h3.cell (p := ⟨w.heap.size, 0, none⟩) (by (have ha := hadp (n * 2)); (have ha1 := hadp ((n + 1) * 2)); (have ha2 := hadp ((n + 2) * 2)); (try dsimp only); omega)).trans e0
          replace e1 := (h3.cell (p := ⟨w.heap.size, 1, none⟩) (by (have ha := hadp (n * 2)); (have ha1 := hadp ((n + 1) * 2)); (have ha2 := hadp ((n + 2) * 2)); (try dsimp only); omega)).trans e1
          replace c3 := (h3.cell (p := ad.add i) (by (have ha := hadp (n * 2)); (have ha1 := hadp ((n + 1) * 2)); (have ha2 := hadp ((n + 2) * 2)); (try dsimp only); omega)).trans c3
          replace g0 := (h3.cell (p := adp.add (n * 2)) (by (have ha := hadp (n * 2)); (have ha1 := hadp ((n + 1) * 2)); (have ha2 := hadp ((n + 2) * 2)); (try dsimp only); omega)).trans g0
          replace h0 := (h3.cell (p := ⟨(adp.add (n * 2)).block, (adp.add (n * 2)).off + 1, none⟩) (by (have ha := hadp (n * 2)); (have ha1 := hadp ((n + 1) * 2)); (have ha2 := hadp ((n + 2) * 2)); (try dsimp only); omega)).trans h0
          replace g1 := (h3.cell (p := adp.add ((n + 1) * 2)) (by (have ha := hadp (n * 2)); (have ha1 := hadp ((n + 1) * 2)); (have ha2 := hadp ((n + 2) * 2)); (try dsimp only); omega)).trans g1
          replace h1 := (h3.cell (p := ⟨(adp.add ((n + 1) * 2)).block, (adp.add ((n + 1) * 2)).off + 1, none⟩) (by (have ha := hadp (n * 2)); (have ha1 := hadp ((n + 1) * 2)); (have ha2 := hadp ((n + 2) * 2)); (try dsimp only); omega)).trans h1
          have hG3 : w1.heap.size ≤ w3.heap.size := Nat.le_trans hGr h3.size
          have hb3 := hbw.trans (h3.mono hbw.size)
          have hsp3 := hsp0.step h3
          have hAT := HAT.out.step h3 hGr
          have hgs := hAT.sz
          have a0 := hAT.c0
          have a1 := hAT.c1
          have b0 := hAT.f0
          have b1 := hAT.f1
          have HSP := Lib.hid hsp3
          have HA3 := Lib.hid hAT
          clear hsp0 hsp3 hAT h3
          have ho0 := fun o => (World.cell?_alloc_old w3 o ⟨w1.heap.size + 1, 0, none⟩ (by dsimp only; omega)).trans a0
          have ho1 := fun o => (World.cell?_alloc_old w3 o ⟨w1.heap.size + 1, 1, none⟩ (by dsimp only; omega)).trans a1
          go_upto_region 26 with fail
          refine any_gen (fun z => SegBox w3.heap.size (((ax, ay), zP, zP, zP), 3) w3 z) ⟨by simp [go_sem, zP], by simp [go_sem, zP], by simp [go_sem, zP], by simp [go_sem, zP], by simp [go_sem, zP], by simp [go_sem, zP], by simp [go_sem, zP], by simp [go_sem, zP], by simp [go_sem, zP], fun j => by simp, by repeat (first | exact Below.refl _ _ | refine below_dN ?_ _ | refine Below.setCell ?_ (by simp; try omega) _ | refine Below.alloc ?_ (by simp; try omega) _), by simp⟩ ?_
          rintro w4 hS0
          have HS0 := Lib.hid hS0
          clear hS0 a0 a1 ho0 ho1 b0 b1 c3 e0 e1
          go_wp2
          go_loopw [13] (fun s13 wx => ∃ j : Nat, j ≤ 2 ∧ s13 = .int .i64 j ∧ SegBox w3.heap.size (((ax, ay), pick [(p0, q0), (p1, q1)] j 0, pick [(p0, q0), (p1, q1)] j 1, pick [(p0, q0), (p1, q1)] j 2), 3) w3 wx) (fun s13 _ => 2 - (intOf s13).toNat)
          case atStart => exact ⟨0, by omega, rfl, HS0.out⟩
          case round =>
            obtain ⟨j, hj, rfl, hS⟩ := hrel
            obtain ⟨w5, hw5⟩ : ∃ w5 : World, w5 = wr := ⟨_, rfl⟩
            subst hw5
            have hzz := hS.bel.size
            have hadm := hadp (n * 2)
            have g0x : w5.cell? (adp.add (n * 2)) = some (.int .i64 p0) := (hS.bel.cell (p := adp.add (n * 2)) (by omega)).trans g0
            have h0x : w5.cell? ⟨(adp.add (n * 2)).block, (adp.add (n * 2)).off + 1, none⟩ = some (.int .i64 q0) := (hS.bel.cell (p := ⟨(adp.add (n * 2)).block, (adp.add (n * 2)).off + 1, none⟩) (by dsimp only; omega)).trans h0
            clear hadm
            have hadm := hadp ((n + 1) * 2)
            have g1x : w5.cell? (adp.add ((n + 1) * 2)) = some (.int .i64 p1) := (hS.bel.cell (p := adp.add ((n + 1) * 2)) (by omega)).trans g1
            have h1x : w5.cell? ⟨(adp.add ((n + 1) * 2)).block, (adp.add ((n + 1) * 2)).off + 1, none⟩ = some (.int .i64 q1) := (hS.bel.cell (p := ⟨(adp.add ((n + 1) * 2)).block, (adp.add ((n + 1) * 2)).off + 1, none⟩) (by dsimp only; omega)).trans h1
            have ea1 : adp.add ((n + 1) * 2) = (adp.add (n * 2)).add 2 := by rw [add_add]; congr 1; omega
            have g1y : w5.cell? ((adp.add (n * 2)).add 2) = some (.int .i64 p1) := by rw [← ea1]; exact g1x
            have g1z : w5.cell? ⟨(adp.add (n * 2)).block, (adp.add (n * 2)).off + 2, none⟩ = some (.int .i64 p1) := g1y
            rw [ea1] at h1x
            have h1z : w5.cell? ⟨(adp.add (n * 2)).block, (adp.add (n * 2)).off + 3, none⟩ = some (.int .i64 q1) := h1x
            clear ea1 g1x
            clear hadm
            obtain rfl | rfl | rfl : j = 0 ∨ j = 1 ∨ j = 2 := by omega
            · have u2 : w5.cell? ⟨w3.heap.size, 2, none⟩ = some (.int .i64 0) := hS.c2
              have u3 : w5.cell? ⟨w3.heap.size, 3, none⟩ = some (.int .i64 0) := hS.c3
              have f2 := hS.fz 2
              have f3 := hS.fz 3
              have hS1 := hS.put1 (p0, q0)
              go_wp2
              go_roundw
              case rel => exact ⟨1, by omega, rfl, hS1⟩
              case measure => simp [intOf]
            · have u4 : w5.cell? ⟨w3.heap.size, 4, none⟩ = some (.int .i64 0) := hS.c4
              have u5 : w5.cell? ⟨w3.heap.size, 5, none⟩ = some (.int .i64 0) := hS.c5
              have f4 := hS.fz 4
              have f5 := hS.fz 5
              have hS1 := hS.put2 (p1, q1)
              go_wp2
              go_roundw
              case rel => exact ⟨2, by omega, rfl, hS1⟩
              case measure => simp [intOf]
            · have hS9 : SegBox w3.heap.size ((((ax, ay), (p0, q0), (p1, q1), zP), 3) : SegV) w3 w5 := hS
              have hA5 := HA3.out.step hS9.bel hG3
              have hsp5 := HSP.out.step hS9.bel
              have a0 := hA5.c0
              have a1 := hA5.c1
              have b0 := hA5.f0
              have b1 := hA5.f1
              have hA6 := Lib.hid (hA5.put (p1, q1) (by omega))
              have HSP6 := Lib.hid ((hsp5.put hov hcl hsv 0 (.int .i64 p1)).put hov hcl hsv 1 (.int .i64 q1))
              have y0 : w5.cell? ⟨w3.heap.size, 0, none⟩ = some (.int .i64 ax) := hS9.c0
              have y1 : w5.cell? ⟨w3.heap.size, 1, none⟩ = some (.int .i64 ay) := hS9.c1
              have y2 : w5.cell? ⟨w3.heap.size, 2, none⟩ = some (.int .i64 p0) := hS9.c2
              have y3 : w5.cell? ⟨w3.heap.size, 3, none⟩ = some (.int .i64 q0) := hS9.c3
              have y4 : w5.cell? ⟨w3.heap.size, 4, none⟩ = some (.int .i64 p1) := hS9.c4
              have y5 : w5.cell? ⟨w3.heap.size, 5, none⟩ = some (.int .i64 q1) := hS9.c5
              have y6 : w5.cell? ⟨w3.heap.size, 6, none⟩ = some (.int .i64 0) := hS9.c6
              have y7 : w5.cell? ⟨w3.heap.size, 7, none⟩ = some (.int .i64 0) := hS9.c7
              have y8 : w5.cell? ⟨w3.heap.size, 8, none⟩ = some (.int .i64 3) := hS9.c8
              have hszz := hS9.sz
              have hd1 : w1.heap.size + 1 ≠ w3.heap.size := by omega
              clear hS hS9 hA5 hsp5
              go_upto_region 30 with fail
              refine any_gen (fun z => (z.cell? ⟨w3.heap.size, 0, none⟩ = some (.int .i64 ax) ∧ z.cell? ⟨w3.heap.size, 1, none⟩ = some (.int .i64 ay) ∧ z.cell? ⟨w3.heap.size, 2, none⟩ = some (.int .i64 p0) ∧ z.cell? ⟨w3.heap.size, 3, none⟩ = some (.int .i64 q0) ∧ z.cell? ⟨w3.heap.size, 4, none⟩ = some (.int .i64 p1) ∧ z.cell? ⟨w3.heap.size, 5, none⟩ = some (.int .i64 q1) ∧ z.cell? ⟨w3.heap.size, 6, none⟩ = some (.int .i64 0) ∧ z.cell? ⟨w3.heap.size, 7, none⟩ = some (.int .i64 0) ∧ z.cell? ⟨w3.heap.size, 8, none⟩ = some (.int .i64 3)) ∧ SpS w1.heap.size o pp sg z (.slice (some ⟨gv, 0, none⟩) (o.length + 1) cap) cs sv ∧ AtB (w1.heap.size + 1) w1.heap.size (p1, q1) w1 z ∧ w3.heap.size < z.heap.size) ⟨⟨(World.cell?_setCell_far _ _ _ _ (by dsimp only; omega)).trans ((World.cell?_setCell_far _ _ _ _ (by dsimp only; omega)).trans y0), (World.cell?_setCell_far _ _ _ _ (by dsimp only; omega)).trans ((World.cell?_setCell_far _ _ _ _ (by dsimp only; omega)).trans y1), (World.cell?_setCell_far _ _ _ _ (by dsimp only; omega)).trans ((World.cell?_setCell_far _ _ _ _ (by dsimp only; omega)).trans y2), (World.cell?_setCell_far _ _ _ _ (by dsimp only; omega)).trans ((World.cell?_setCell_far _ _ _ _ (by dsimp only; omega)).trans y3), (World.cell?_setCell_far _ _ _ _ (by dsimp only; omega)).trans ((World.cell?_setCell_far _ _ _ _ (by dsimp only; omega)).trans y4), (World.cell?_setCell_far _ _ _ _ (by dsimp only; omega)).trans ((World.cell?_setCell_far _ _ _ _ (by dsimp only; omega)).trans y5), (World.cell?_setCell_far _ _ _ _ (by dsimp only; omega)).trans ((World.cell?_setCell_far _ _ _ _ (by dsimp only; omega)).trans y6), (World.cell?_setCell_far _ _ _ _ (by dsimp only; omega)).trans ((World.cell?_setCell_far _ _ _ _ (by dsimp only; omega)).trans y7), (World.cell?_setCell_far _ _ _ _ (by dsimp only; omega)).trans ((World.cell?_setCell_far _ _ _ _ (by dsimp only; omega)).trans y8)⟩, HSP6.out, hA6.out, by simpa [World.setCell] using hszz⟩ ?_
              clear y0 y1 y2 y3 y4 y5 y6 y7 y8 a0 a1 b0 b1 hA6 HSP6 hszz
              rintro w6 ⟨⟨y0, y1, y2, y3, y4, y5, y6, y7, y8⟩, hsp6, hA6, hs6⟩
              have cv1 := hsp6.row.cells rfl (o.length * 4 + 2) sv (by have := hsp6.len; rw [List.getElem?_append_right (by omega), this]; simp)
              have hadd : (⟨gv, 0, none⟩ : Addr).add (o.length * 4 + 2) = ⟨gv, o.length * 4 + 2, none⟩ := by unfold Addr.add; simp
              rw [hadd] at cv1
              have fv1 := hsp6.row.frozenAt (o.length * 4 + 2)
              have hsd := hsp6.seg.drew
              have hszB : w1.heap.size ≤ w6.heap.size := hA6.bel.size
              have hlt6 := (hsp6.row.lt gv rfl).2
              have SP6 := Lib.hid hsp6
              have A6 := Lib.hid hA6
              have HM1 := Lib.hid hm1
              obtain ⟨q, hq⟩ : ∃ q, o.length = q := ⟨_, rfl⟩
              rw [hq] at cv1 fv1
              have HQ1 := Lib.hid hq
              have lo2 : sg.length ≤ i := hlm (pp, sg, false) (by simp)
              have i1 : IntKind.i64.wrap ((m1 : Int) - 1) = (q : Int) := by rw [IntWalk.i64_in _ (by omega)]; omega
              have i2 : (0 : Int) ≤ (q : Int) := by omega
              have i3 : (q : Int) < (m1 : Int) := by omega
              have cal : ∀ o : Obj, (w6.alloc o).cell? ⟨gv, q * 4 + 2, none⟩ = some sv := fun o => (World.cell?_alloc_old _ _ _ (by dsimp only; omega)).trans cv1
              have fal : ∀ o : Obj, (w6.alloc o).frozen? ⟨gv, q * 4 + 2, none⟩ = false := fun o => (World.frozen?_alloc_old _ _ _ (by dsimp only; omega)).trans fv1
              clear hsp6 hA6 hq hadd
              (try rw [hm1])
              clear hm1
              go_region_law (refine step_append_full (by rfl) _ _ (by rfl) w1.heap.size i0 _ 9 72 und_sgs und_sgs ki kz0 kz1 kz2 rfl (by omega) sv sg.length (flatG sg) (by rfl) (hsd.alloc _) (some ⟨w6.heap.size, 0, none⟩) 1 1 [.int .i64 ax, .int .i64 ay, .int .i64 p0, .int .i64 q0, .int .i64 p1, .int .i64 q1, .int .i64 0, .int .i64 0, .int .i64 3] (by rfl) (by rfl) (fun j u hu => ⟨_, rfl, World.news_of_block (cs := #[.int .i64 ax, .int .i64 ay, .int .i64 p0, .int .i64 q0, .int .i64 p1, .int .i64 q1, .int .i64 0, .int .i64 0, .int .i64 3]) (t := 54) (fr := (0, 0)) (heap_alloc_new w6.drew _) j u hu⟩) (by simp [Value.oneCell']) (by simp) (by simp [maxLen]; omega) (by omega) (by simp; omega) ?_; intro a7 c7 w7 ap7; have cv7 := ap7.grew.cell (a := ⟨gv, q * 4 + 2, none⟩) (cal _) (fun k => hne k.symm); have fv7 := (World.frozen?_of_block (a := ⟨gv, q * 4 + 2, none⟩) (ap7.grew.block gv (by simp; omega) (fun k => hne k.symm))).trans (fal _))
              all_goals
                have hq1 := HQ1.out
                have hm1 := HM1.out
                have hdal := ((Below.refl w6.heap.size w6).drew).alloc (Nat.le_refl _) (Obj.cells #[.int .i64 ax, .int .i64 ay, .int .i64 p0, .int .i64 q0, .int .i64 p1, .int .i64 q1, .int .i64 0, .int .i64 0, .int .i64 3] 54)
                have hmore := (SP6.out.step hdal).more ((((ax, ay), (p0, q0), (p1, q1), zP), 3) : SegV) ap7
                have hA7 := ((A6.out.step hdal hszB).grown ap7.grew (fun k => hsv k.symm) (ownsRow_ge hsd) (by simp; omega)).grown (grown_set7 w7 ⟨gv, o.length * 4 + 2, none⟩ (.slice a7 (sg.length + 1) c7)) (fun k => hgg (Option.some.inj k).symm) (fun k e => by have := Option.some.inj e; dsimp only at this; omega) (Nat.le_trans (by simp; omega) ap7.grew.size)
                have hsv7 : (Value.slice a7 (sg.length + 1) c7).ownBlock ≠ some (w1.heap.size + 1) := by
                  rcases ap7.own with k | k
                  · rw [k]; exact hsv
                  · rw [k]; intro e; have := Option.some.inj e; simp at this; omega
                have HMORE := Lib.hid hmore
                have HA7 := Lib.hid hA7
                clear hmore hA7 ap7 hdal
                rw [← hq1] at *
                clear hq1 hm1
                go_wp2
                go_roundw
                case rel => exact ⟨i + 1, n + 2, o ++ [(pp, sg ++ [(((ax, ay), (p0, q0), (p1, q1), zP), 3)], false)], (p1, q1), 3, by go_num, by go_num, by omega, by omega, ⟨T3.out, ND.out, RUN.out⟩, .inr ⟨o, pp, sg ++ [(((ax, ay), (p0, q0), (p1, q1), zP), 3)], cs, .slice a7 (sg.length + 1) c7, rfl, by rw [← HM1.out]; exact HMORE.out, hcl, hov, hsv7⟩, HA7.out, ⟨by simp; omega, by simp at hln ⊢; omega, fun x hx => by
                  rcases List.mem_append.1 hx with e | e
                  · have := hlm x (List.mem_append_left _ e); omega
                  · rw [List.mem_singleton] at e; subst e; simp; omega⟩⟩
                case measure => simp [intOf]; omega
        · rw [takes_4] at hnd
          obtain ⟨⟨p0, q0⟩, hp0⟩ : ∃ p, ps[n]? = some p := ⟨_, List.getElem?_eq_getElem (by rw [HM.out]; omega)⟩
          obtain ⟨adp, rfl, hBp, g0, h0⟩ := (HQ.out.step hbw).at_ hp0
          dsimp only at g0 h0
          obtain ⟨⟨p1, q1⟩, hp1⟩ : ∃ p, ps[n + 1]? = some p := ⟨_, List.getElem?_eq_getElem (by rw [HM.out]; omega)⟩
          obtain ⟨adq, eq, _, g1, h1⟩ := (HQ.out.step hbw).at_ hp1
          obtain rfl := Option.some.inj eq
          clear eq
          dsimp only at g1 h1
          obtain ⟨⟨p2, q2⟩, hp2⟩ : ∃ p, ps[n + 2]? = some p := ⟨_, List.getElem?_eq_getElem (by rw [HM.out]; omega)⟩
          obtain ⟨adq, eq, _, g2, h2⟩ := (HQ.out.step hbw).at_ hp2
          obtain rfl := Option.some.inj eq
          clear eq
          dsimp only at g2 h2
          have hadp : ∀ j, (adp.add j).block < w.heap.size := fun j => by rw [block_add]; exact hBp
          obtain ⟨o, pp, sg, cs, sv, rfl, hsp0, hcl, hov, hsv⟩ := HST.out.open_ (T2.out (by decide))
          obtain ⟨gv, cap, rfl, hgB, hgl⟩ := hsp0.row.form (by omega)
          have hne : sv.ownBlock ≠ some gv := fun k => hsp0.ne gv k rfl
          have hgg : gv ≠ w1.heap.size + 1 := fun k => hov (by rw [k]; rfl)
          obtain ⟨m1, hm1⟩ : ∃ m1, o.length + 1 = m1 := ⟨_, rfl⟩
          rw [List.length_append, List.length_cons, List.length_nil] at hlo
          have TK0 := fun w => r7takes_any 4 w
          simp only [takes_4] at TK0
          have TK := Lib.hid TK0
          have hdr : ps.drop n = segPs ((((ax, ay), (p0, q0), (p1, q1), (p2, q2)), 4) : SegV) ++ ps.drop (n + 3) := by rw [drop_at hp0, drop_at hp1, drop_at hp2]; rfl
          have RUN := Lib.hid (show (runP (vs.drop (i + 1)) (o ++ [(pp, sg ++ [((((ax, ay), (p0, q0), (p1, q1), (p2, q2)), 4) : SegV)], false)], (p2, q2), ps.drop (n + 3))).1 = F by
            have h9 := HRUN.out
            rw [hdr] at h9
            have h8 := step_seg ((((ax, ay), (p0, q0), (p1, q1), (p2, q2)), 4) : SegV) (ax, ay) o pp sg (ps.drop (n + 3)) rfl (by first | exact .inl rfl | exact .inr (.inl rfl) | exact .inr (.inr rfl))
            dsimp only at h8
            rw [h8] at h9
            exact h9)
          have ND := Lib.hid (show needs (vs.drop (i + 1)) = (M : Int) - ((n + 3 : Nat) : Int) by omega)
          have hn1 : n + 3 ≤ M := by omega
          clear HRUN hp0 hp1 hp2 TK0 hnd hnn t1 hdr
          have r1 : IntKind.i64.wrap ((n : Int) + 3) = (n : Int) + 3 := IntWalk.i64_in _ (by omega)
          have r2 : (0 : Int) ≤ (n : Int) := by omega
          have r3 : ¬ (n : Int) = (cp : Int) := by omega
          have r4 : ¬ n = cp := by omega
          have r5 : ((n : Int) + 3).toNat = n + 3 := by omega
          go_wp2_with fail
          refine (TK.out _).mono ?_
          rintro e w3 ⟨rfl, h3⟩
          replace e0 := (h3.cell (p := ⟨w.heap.size, 0, none⟩) (by (have ha := hadp (n * 2)); (have ha1 := hadp ((n + 1) * 2)); (have ha2 := hadp ((n + 2) * 2)); (try dsimp only); omega)).trans e0
          replace e1 := (h3.cell (p := ⟨w.heap.size, 1, none⟩) (by (have ha := hadp (n * 2)); (have ha1 := hadp ((n + 1) * 2)); (have ha2 := hadp ((n + 2) * 2)); (try dsimp only); omega)).trans e1
          replace c3 := (h3.cell (p := ad.add i) (by (have ha := hadp (n * 2)); (have ha1 := hadp ((n + 1) * 2)); (have ha2 := hadp ((n + 2) * 2)); (try dsimp only); omega)).trans c3
          replace g0 := (h3.cell (p := adp.add (n * 2)) (by (have ha := hadp (n * 2)); (have ha1 := hadp ((n + 1) * 2)); (have ha2 := hadp ((n + 2) * 2)); (try dsimp only); omega)).trans g0
          replace h0 := (h3.cell (p := ⟨(adp.add (n * 2)).block, (adp.add (n * 2)).off + 1, none⟩) (by (have ha := hadp (n * 2)); (have ha1 := hadp ((n + 1) * 2)); (have ha2 := hadp ((n + 2) * 2)); (try dsimp only); omega)).trans h0
          replace g1 := (h3.cell (p := adp.add ((n + 1) * 2)) (by (have ha := hadp (n * 2)); (have ha1 := hadp ((n + 1) * 2)); (have ha2 := hadp ((n + 2) * 2)); (try dsimp only); omega)).trans g1
          replace h1 := (h3.cell (p := ⟨(adp.add ((n + 1) * 2)).block, (adp.add ((n + 1) * 2)).off + 1, none⟩) (by (have ha := hadp (n * 2)); (have ha1 := hadp ((n + 1) * 2)); (have ha2 := hadp ((n + 2) * 2)); (try dsimp only); omega)).trans h1
          replace g2 := (h3.cell (p := adp.add ((n + 2) * 2)) (by (have ha := hadp (n * 2)); (have ha1 := hadp ((n + 1) * 2)); (have ha2 := hadp ((n + 2) * 2)); (try dsimp only); omega)).trans g2
          replace h2 := (h3.cell (p := ⟨(adp.add ((n + 2) * 2)).block, (adp.add ((n + 2) * 2)).off + 1, none⟩) (by (have ha := hadp (n * 2)); (have ha1 := hadp ((n + 1) * 2)); (have ha2 := hadp ((n + 2) * 2)); (try dsimp only); omega)).trans h2
          have hG3 : w1.heap.size ≤ w3.heap.size := Nat.le_trans hGr h3.size
          have hb3 := hbw.trans (h3.mono hbw.size)
          have hsp3 := hsp0.step h3
          have hAT := HAT.out.step h3 hGr
          have hgs := hAT.sz
          have a0 := hAT.c0
          have a1 := hAT.c1
          have b0 := hAT.f0
          have b1 := hAT.f1
          have HSP := Lib.hid hsp3
          have HA3 := Lib.hid hAT
          clear hsp0 hsp3 hAT h3
          have ho0 := fun o => (World.cell?_alloc_old w3 o ⟨w1.heap.size + 1, 0, none⟩ (by dsimp only; omega)).trans a0
          have ho1 := fun o => (World.cell?_alloc_old w3 o ⟨w1.heap.size + 1, 1, none⟩ (by dsimp only; omega)).trans a1
          go_upto_region 26 with fail
          refine any_gen (fun z => SegBox w3.heap.size (((ax, ay), zP, zP, zP), 4) w3 z) ⟨by simp [go_sem, zP], by simp [go_sem, zP], by simp [go_sem, zP], by simp [go_sem, zP], by simp [go_sem, zP], by simp [go_sem, zP], by simp [go_sem, zP], by simp [go_sem, zP], by simp [go_sem, zP], fun j => by simp, by repeat (first | exact Below.refl _ _ | refine below_dN ?_ _ | refine Below.setCell ?_ (by simp; try omega) _ | refine Below.alloc ?_ (by simp; try omega) _), by simp⟩ ?_
          rintro w4 hS0
          have HS0 := Lib.hid hS0
          clear hS0 a0 a1 ho0 ho1 b0 b1 c3 e0 e1
          go_wp2
          go_loopw [13] (fun s13 wx => ∃ j : Nat, j ≤ 3 ∧ s13 = .int .i64 j ∧ SegBox w3.heap.size (((ax, ay), pick [(p0, q0), (p1, q1), (p2, q2)] j 0, pick [(p0, q0), (p1, q1), (p2, q2)] j 1, pick [(p0, q0), (p1, q1), (p2, q2)] j 2), 4) w3 wx) (fun s13 _ => 3 - (intOf s13).toNat)
          case atStart => exact ⟨0, by omega, rfl, HS0.out⟩
          case round =>
            obtain ⟨j, hj, rfl, hS⟩ := hrel
            obtain ⟨w5, hw5⟩ : ∃ w5 : World, w5 = wr := ⟨_, rfl⟩
            subst hw5
            have hzz := hS.bel.size
            have hadm := hadp (n * 2)
            have g0x : w5.cell? (adp.add (n * 2)) = some (.int .i64 p0) := (hS.bel.cell (p := adp.add (n * 2)) (by omega)).trans g0
            have h0x : w5.cell? ⟨(adp.add (n * 2)).block, (adp.add (n * 2)).off + 1, none⟩ = some (.int .i64 q0) := (hS.bel.cell (p := ⟨(adp.add (n * 2)).block, (adp.add (n * 2)).off + 1, none⟩) (by dsimp only; omega)).trans h0
            clear hadm
            have hadm := hadp ((n + 1) * 2)
            have g1x : w5.cell? (adp.add ((n + 1) * 2)) = some (.int .i64 p1) := (hS.bel.cell (p := adp.add ((n + 1) * 2)) (by omega)).trans g1
            have h1x : w5.cell? ⟨(adp.add ((n + 1) * 2)).block, (adp.add ((n + 1) * 2)).off + 1, none⟩ = some (.int .i64 q1) := (hS.bel.cell (p := ⟨(adp.add ((n + 1) * 2)).block, (adp.add ((n + 1) * 2)).off + 1, none⟩) (by dsimp only; omega)).trans h1
            have ea1 : adp.add ((n + 1) * 2) = (adp.add (n * 2)).add 2 := by rw [add_add]; congr 1; omega
            have g1y : w5.cell? ((adp.add (n * 2)).add 2) = some (.int .i64 p1) := by rw [← ea1]; exact g1x
            have g1z : w5.cell? ⟨(adp.add (n * 2)).block, (adp.add (n * 2)).off + 2, none⟩ = some (.int .i64 p1) := g1y
            rw [ea1] at h1x
            have h1z : w5.cell? ⟨(adp.add (n * 2)).block, (adp.add (n * 2)).off + 3, none⟩ = some (.int .i64 q1) := h1x
            clear ea1 g1x
            clear hadm
            have hadm := hadp ((n + 2) * 2)
            have g2x : w5.cell? (adp.add ((n + 2) * 2)) = some (.int .i64 p2) := (hS.bel.cell (p := adp.add ((n + 2) * 2)) (by omega)).trans g2
            have h2x : w5.cell? ⟨(adp.add ((n + 2) * 2)).block, (adp.add ((n + 2) * 2)).off + 1, none⟩ = some (.int .i64 q2) := (hS.bel.cell (p := ⟨(adp.add ((n + 2) * 2)).block, (adp.add ((n + 2) * 2)).off + 1, none⟩) (by dsimp only; omega)).trans h2
            have ea2 : adp.add ((n + 2) * 2) = (adp.add (n * 2)).add 4 := by rw [add_add]; congr 1; omega
            have g2y : w5.cell? ((adp.add (n * 2)).add 4) = some (.int .i64 p2) := by rw [← ea2]; exact g2x
            have g2z : w5.cell? ⟨(adp.add (n * 2)).block, (adp.add (n * 2)).off + 4, none⟩ = some (.int .i64 p2) := g2y
            rw [ea2] at h2x
            have h2z : w5.cell? ⟨(adp.add (n * 2)).block, (adp.add (n * 2)).off + 5, none⟩ = some (.int .i64 q2) := h2x
            clear ea2 g2x
            clear hadm
            obtain rfl | rfl | rfl | rfl : j = 0 ∨ j = 1 ∨ j = 2 ∨ j = 3 := by omega
            · have u2 : w5.cell? ⟨w3.heap.size, 2, none⟩ = some (.int .i64 0) := hS.c2
              have u3 : w5.cell? ⟨w3.heap.size, 3, none⟩ = some (.int .i64 0) := hS.c3
              have f2 := hS.fz 2
              have f3 := hS.fz 3
              have hS1 := hS.put1 (p0, q0)
              go_wp2
              go_roundw
              case rel => exact ⟨1, by omega, rfl, hS1⟩
              case measure => simp [intOf]
            · have u4 : w5.cell? ⟨w3.heap.size, 4, none⟩ = some (.int .i64 0) := hS.c4
              have u5 : w5.cell? ⟨w3.heap.size, 5, none⟩ = some (.int .i64 0) := hS.c5
              have f4 := hS.fz 4
              have f5 := hS.fz 5
              have hS1 := hS.put2 (p1, q1)
              go_wp2
              go_roundw
              case rel => exact ⟨2, by omega, rfl, hS1⟩
              case measure => simp [intOf]
            · have u6 : w5.cell? ⟨w3.heap.size, 6, none⟩ = some (.int .i64 0) := hS.c6
              have u7 : w5.cell? ⟨w3.heap.size, 7, none⟩ = some (.int .i64 0) := hS.c7
              have f6 := hS.fz 6
              have f7 := hS.fz 7
              have hS1 := hS.put3 (p2, q2)
              go_wp2
              go_roundw
              case rel => exact ⟨3, by omega, rfl, hS1⟩
              case measure => simp [intOf]
            · have hS9 : SegBox w3.heap.size ((((ax, ay), (p0, q0), (p1, q1), (p2, q2)), 4) : SegV) w3 w5 := hS
              have hA5 := HA3.out.step hS9.bel hG3
              have hsp5 := HSP.out.step hS9.bel
              have a0 := hA5.c0
              have a1 := hA5.c1
              have b0 := hA5.f0
              have b1 := hA5.f1
              have hA6 := Lib.hid (hA5.put (p2, q2) (by omega))
              have HSP6 := Lib.hid ((hsp5.put hov hcl hsv 0 (.int .i64 p2)).put hov hcl hsv 1 (.int .i64 q2))
              have y0 : w5.cell? ⟨w3.heap.size, 0, none⟩ = some (.int .i64 ax) := hS9.c0
              have y1 : w5.cell? ⟨w3.heap.size, 1, none⟩ = some (.int .i64 ay) := hS9.c1
              have y2 : w5.cell? ⟨w3.heap.size, 2, none⟩ = some (.int .i64 p0) := hS9.c2
              have y3 : w5.cell? ⟨w3.heap.size, 3, none⟩ = some (.int .i64 q0) := hS9.c3
              have y4 : w5.cell? ⟨w3.heap.size, 4, none⟩ = some (.int .i64 p1) := hS9.c4
              have y5 : w5.cell? ⟨w3.heap.size, 5, none⟩ = some (.int .i64 q1) := hS9.c5
              have y6 : w5.cell? ⟨w3.heap.size, 6, none⟩ = some (.int .i64 p2) := hS9.c6
              have y7 : w5.cell? ⟨w3.heap.size, 7, none⟩ = some (.int .i64 q2) := hS9.c7
              have y8 : w5.cell? ⟨w3.heap.size, 8, none⟩ = some (.int .i64 4) := hS9.c8
              have hszz := hS9.sz
              have hd1 : w1.heap.size + 1 ≠ w3.heap.size := by omega
              clear hS hS9 hA5 hsp5
              go_upto_region 30 with fail
              refine any_gen (fun z => (z.cell? ⟨w3.heap.size, 0, none⟩ = some (.int .i64 ax) ∧ z.cell? ⟨w3.heap.size, 1, none⟩ = some (.int .i64 ay) ∧ z.cell? ⟨w3.heap.size, 2, none⟩ = some (.int .i64 p0) ∧ z.cell? ⟨w3.heap.size, 3, none⟩ = some (.int .i64 q0) ∧ z.cell? ⟨w3.heap.size, 4, none⟩ = some (.int .i64 p1) ∧ z.cell? ⟨w3.heap.size, 5, none⟩ = some (.int .i64 q1) ∧ z.cell? ⟨w3.heap.size, 6, none⟩ = some (.int .i64 p2) ∧ z.cell? ⟨w3.heap.size, 7, none⟩ = some (.int .i64 q2) ∧ z.cell? ⟨w3.heap.size, 8, none⟩ = some (.int .i64 4)) ∧ SpS w1.heap.size o pp sg z (.slice (some ⟨gv, 0, none⟩) (o.length + 1) cap) cs sv ∧ AtB (w1.heap.size + 1) w1.heap.size (p2, q2) w1 z ∧ w3.heap.size < z.heap.size) ⟨⟨(World.cell?_setCell_far _ _ _ _ (by dsimp only; omega)).trans ((World.cell?_setCell_far _ _ _ _ (by dsimp only; omega)).trans y0), (World.cell?_setCell_far _ _ _ _ (by dsimp only; omega)).trans ((World.cell?_setCell_far _ _ _ _ (by dsimp only; omega)).trans y1), (World.cell?_setCell_far _ _ _ _ (by dsimp only; omega)).trans ((World.cell?_setCell_far _ _ _ _ (by dsimp only; omega)).trans y2), (World.cell?_setCell_far _ _ _ _ (by dsimp only; omega)).trans ((World.cell?_setCell_far _ _ _ _ (by dsimp only; omega)).trans y3), (World.cell?_setCell_far _ _ _ _ (by dsimp only; omega)).trans ((World.cell?_setCell_far _ _ _ _ (by dsimp only; omega)).trans y4), (World.cell?_setCell_far _ _ _ _ (by dsimp only; omega)).trans ((World.cell?_setCell_far _ _ _ _ (by dsimp only; omega)).trans y5), (World.cell?_setCell_far _ _ _ _ (by dsimp only; omega)).trans ((World.cell?_setCell_far _ _ _ _ (by dsimp only; omega)).trans y6), (World.cell?_setCell_far _ _ _ _ (by dsimp only; omega)).trans ((World.cell?_setCell_far _ _ _ _ (by dsimp only; omega)).trans y7), (World.cell?_setCell_far _ _ _ _ (by dsimp only; omega)).trans ((World.cell?_setCell_far _ _ _ _ (by dsimp only; omega)).trans y8)⟩, HSP6.out, hA6.out, by simpa [World.setCell] using hszz⟩ ?_
              clear y0 y1 y2 y3 y4 y5 y6 y7 y8 a0 a1 b0 b1 hA6 HSP6 hszz
              rintro w6 ⟨⟨y0, y1, y2, y3, y4, y5, y6, y7, y8⟩, hsp6, hA6, hs6⟩
              have cv1 := hsp6.row.cells rfl (o.length * 4 + 2) sv (by have := hsp6.len; rw [List.getElem?_append_right (by omega), this]; simp)
              have hadd : (⟨gv, 0, none⟩ : Addr).add (o.length * 4 + 2) = ⟨gv, o.length * 4 + 2, none⟩ := by unfold Addr.add; simp
              rw [hadd] at cv1
              have fv1 := hsp6.row.frozenAt (o.length * 4 + 2)
              have hsd := hsp6.seg.drew
              have hszB : w1.heap.size ≤ w6.heap.size := hA6.bel.size
              have hlt6 := (hsp6.row.lt gv rfl).2
              have SP6 := Lib.hid hsp6
              have A6 := Lib.hid hA6
              have HM1 := Lib.hid hm1
              obtain ⟨q, hq⟩ : ∃ q, o.length = q := ⟨_, rfl⟩
              rw [hq] at cv1 fv1
              have HQ1 := Lib.hid hq
              have lo2 : sg.length ≤ i := hlm (pp, sg, false) (by simp)
              have i1 : IntKind.i64.wrap ((m1 : Int) - 1) = (q : Int) := by rw [IntWalk.i64_in _ (by omega)]; omega
              have i2 : (0 : Int) ≤ (q : Int) := by omega
              have i3 : (q : Int) < (m1 : Int) := by omega
              have cal : ∀ o : Obj, (w6.alloc o).cell? ⟨gv, q * 4 + 2, none⟩ = some sv := fun o => (World.cell?_alloc_old _ _ _ (by dsimp only; omega)).trans cv1
              have fal : ∀ o : Obj, (w6.alloc o).frozen? ⟨gv, q * 4 + 2, none⟩ = false := fun o => (World.frozen?_alloc_old _ _ _ (by dsimp only; omega)).trans fv1
              clear hsp6 hA6 hq hadd
              (try rw [hm1])
              clear hm1
              go_region_law (refine step_append_full (by rfl) _ _ (by rfl) w1.heap.size i0 _ 9 72 und_sgs und_sgs ki kz0 kz1 kz2 rfl (by omega) sv sg.length (flatG sg) (by rfl) (hsd.alloc _) (some ⟨w6.heap.size, 0, none⟩) 1 1 [.int .i64 ax, .int .i64 ay, .int .i64 p0, .int .i64 q0, .int .i64 p1, .int .i64 q1, .int .i64 p2, .int .i64 q2, .int .i64 4] (by rfl) (by rfl) (fun j u hu => ⟨_, rfl, World.news_of_block (cs := #[.int .i64 ax, .int .i64 ay, .int .i64 p0, .int .i64 q0, .int .i64 p1, .int .i64 q1, .int .i64 p2, .int .i64 q2, .int .i64 4]) (t := 54) (fr := (0, 0)) (heap_alloc_new w6.drew _) j u hu⟩) (by simp [Value.oneCell']) (by simp) (by simp [maxLen]; omega) (by omega) (by simp; omega) ?_; intro a7 c7 w7 ap7; have cv7 := ap7.grew.cell (a := ⟨gv, q * 4 + 2, none⟩) (cal _) (fun k => hne k.symm); have fv7 := (World.frozen?_of_block (a := ⟨gv, q * 4 + 2, none⟩) (ap7.grew.block gv (by simp; omega) (fun k => hne k.symm))).trans (fal _))
              all_goals
                have hq1 := HQ1.out
                have hm1 := HM1.out
                have hdal := ((Below.refl w6.heap.size w6).drew).alloc (Nat.le_refl _) (Obj.cells #[.int .i64 ax, .int .i64 ay, .int .i64 p0, .int .i64 q0, .int .i64 p1, .int .i64 q1, .int .i64 p2, .int .i64 q2, .int .i64 4] 54)
                have hmore := (SP6.out.step hdal).more ((((ax, ay), (p0, q0), (p1, q1), (p2, q2)), 4) : SegV) ap7
                have hA7 := ((A6.out.step hdal hszB).grown ap7.grew (fun k => hsv k.symm) (ownsRow_ge hsd) (by simp; omega)).grown (grown_set7 w7 ⟨gv, o.length * 4 + 2, none⟩ (.slice a7 (sg.length + 1) c7)) (fun k => hgg (Option.some.inj k).symm) (fun k e => by have := Option.some.inj e; dsimp only at this; omega) (Nat.le_trans (by simp; omega) ap7.grew.size)
                have hsv7 : (Value.slice a7 (sg.length + 1) c7).ownBlock ≠ some (w1.heap.size + 1) := by
                  rcases ap7.own with k | k
                  · rw [k]; exact hsv
                  · rw [k]; intro e; have := Option.some.inj e; simp at this; omega
                have HMORE := Lib.hid hmore
                have HA7 := Lib.hid hA7
                clear hmore hA7 ap7 hdal
                rw [← hq1] at *
                clear hq1 hm1
                go_wp2
                go_roundw
                case rel => exact ⟨i + 1, n + 3, o ++ [(pp, sg ++ [(((ax, ay), (p0, q0), (p1, q1), (p2, q2)), 4)], false)], (p2, q2), 4, by go_num, by go_num, by omega, by omega, ⟨T3.out, ND.out, RUN.out⟩, .inr ⟨o, pp, sg ++ [(((ax, ay), (p0, q0), (p1, q1), (p2, q2)), 4)], cs, .slice a7 (sg.length + 1) c7, rfl, by rw [← HM1.out]; exact HMORE.out, hcl, hov, hsv7⟩, HA7.out, ⟨by simp; omega, by simp at hln ⊢; omega, fun x hx => by
                  rcases List.mem_append.1 hx with e | e
                  · have := hlm x (List.mem_append_left _ e); omega
                  · rw [List.mem_singleton] at e; subst e; simp; omega⟩⟩
                case measure => simp [intOf]; omega
    · obtain rfl : i = L := by omega
      obtain ⟨cs, hO, _, _⟩ := hst.outC
      have hfin : ou = F := by
        have h3 := hcc.2.2
        rw [← HL.out, List.drop_length] at h3
        exact h3
      subst hfin
      obtain ⟨A', c', hv, hsubs⟩ := hO.subs
      subst hv
      have HS := Lib.hid hsubs
      have q1 : decide ((i : Int) < (i : Int)) = false := by simp
      clear hO hsubs hst hat hcc
      go_wp2
      go_ret2
      exact ⟨A', c', rfl, HS.out, hbw⟩
end Go.Proofs.YtalgmnnimfenpaaDoor
