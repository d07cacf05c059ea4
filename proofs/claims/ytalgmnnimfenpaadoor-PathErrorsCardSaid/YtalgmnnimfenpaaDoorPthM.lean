/- The machine that takes a path's verbs one by one. -/
import Derived.Test.YtalgmnnimfenpaaDoorPthO
import Derived.Test.YtalgmnnimfenpaaDoorPthD
import Derived.Test.YtalgmnnimfenpaaDoorRef7S
import Derived.Laws.CopyRow
import Derived.BigRegion
namespace Go.Proofs.YtalgmnnimfenpaaDoor.Q7
open Go.RowKit
set_option linter.unusedVariables false
set_option linter.unusedSimpArgs false
set_option maxHeartbeats 4000000
set_option maxRecDepth 100000

theorem run_copy_two {P : Program} (w : World) (dT sT ty elem : TypeId) (g o dLen dCap : Nat) (a : Addr) (sLen sCap : Nat) (cur : Array Value) (t : TypeId) (cs : List Value)
    (hu : P.underlying dT = some (.slice elem)) (hs : (P.info? elem).map (·.size) = some 2)
    (hg : w.heap[g]? = some (.cells cur t (0, 0))) (hn : cs.length = Nat.min sLen dLen * 2)
    (hsrc : ∀ j v, cs[j]? = some v → w.cell? (a.add j) = some v) (hfit : o + cs.length ≤ cur.size) (h1 : ∀ v ∈ cs, v.oneCell' = true) :
    (Builtin.copy_ #[dT, sT] ty #[.slice (some ⟨g, o, none⟩) dLen dCap, .slice (some a) sLen sCap]).run P w =
      .ok (goInt (Nat.min sLen dLen)) (w.setRow g (cur.toList.take o ++ cs ++ cur.toList.drop (o + cs.length)).toArray) := by
  have hl := run_loadCells_list (P := P) w a cs hsrc
  have hst := run_storeCells_at P g o t cs 0 cur w hg (by simpa using hfit) h1
  rw [hn] at hl
  cases hq : P.info? elem with
  | none => simp [hq] at hs
  | some i =>
    have hi : i.size = 2 := by simpa [hq] using hs
    simp [Builtin.copy_, run_underlying hu, Builtin.lenOf, Builtin.firstCells, sizeOf, typeInfo, hq, hi, hl, hst]
theorem wpList_copy_two {P : Program} {w : World} {ops : Array Oper} {rest : List Oper} {o : Oper} {a : Act} {Q : Exit → Act → World → Prop} (hgd : o.guard = none) (d s : Operand) (dT sT : TypeId)
    (ho : o.op = .call { callee := .builtin .copy, args := #[d, s], argTypes := #[dT, sT] }) (elem : TypeId) (hu : P.underlying dT = some (.slice elem)) (hsz : (P.info? elem).map (·.size) = some 2)
    (g off dLen dCap : Nat) (ad : Addr) (sLen sCap : Nat) (hd : a.eval d = .slice (some ⟨g, off, none⟩) dLen dCap) (hs : a.eval s = .slice (some ad) sLen sCap)
    (cur : Array Value) (t : TypeId) (hg : w.heap[g]? = some (.cells cur t (0, 0))) (cs : List Value) (hn : cs.length = Nat.min sLen dLen * 2)
    (hsrc : ∀ j v, cs[j]? = some v → w.cell? (ad.add j) = some v) (hfit : off + cs.length ≤ cur.size) (h1 : ∀ v ∈ cs, v.oneCell' = true)
    (h : wpList P ops Q rest (a.put o.dst (goInt (Nat.min sLen dLen))) (w.setRow g (cur.toList.take off ++ cs ++ cur.toList.drop (off + cs.length)).toArray)) : wpList P ops Q (o :: rest) a w := by
  refine wpList_plain hgd fun K hK => ?_
  have hrun := run_copy_two (P := P) w dT sT o.type elem g off dLen dCap ad sLen sCap cur t cs hu hsz hg hn hsrc hfit h1
  unfold Oper.wp
  simp [execOp, ho, resolve, invoke, builtin, hd, hs, hrun, Result.andThen]
  exact hK _ _ (by simpa using h)

theorem info_sg : (Tryd.prog.info? 51).map (fun i => (i.zero, i.size, i.bytes)) = some (some (.agg #[.int .i64 0, .int .i64 0, .int .i64 0, .int .i64 0, .int .i64 0, .int .i64 0, .int .i64 0, .int .i64 0, .int .i64 0]), 9, 72) := by kernel_rfl
theorem und_sgs : Tryd.prog.underlying 46 = some (.slice 51) := by kernel_rfl
theorem info_sb : (Tryd.prog.info? 48).map (fun i => (i.zero, i.size, i.bytes)) = some (some (.agg #[.int .i64 0, .int .i64 0, .slice none 0 0, .bool false]), 4, 48) := by kernel_rfl
theorem und_sbs : Tryd.prog.underlying 28 = some (.slice 48) := by kernel_rfl
theorem und_ps : Tryd.prog.underlying 23 = some (.slice 44) := by kernel_rfl

/-- The machine at block G: the verbs and the points that are left, the subpaths, the point that was come to last. -/
structure MS (G : Nat) (va vp vo : Value) (p : Pnt) (w x : World) : Prop where
  c0 : x.cell? ⟨G, 0, none⟩ = some va
  c1 : x.cell? ⟨G, 1, none⟩ = some vp
  c2 : x.cell? ⟨G, 2, none⟩ = some vo
  c3 : x.cell? ⟨G, 3, none⟩ = some (.int .i64 p.1)
  c4 : x.cell? ⟨G, 4, none⟩ = some (.int .i64 p.2)
  fz : ∀ j, x.frozen? ⟨G, j, none⟩ = false
  bel : Below G w x
  sz : G + 1 ≤ x.heap.size
theorem MS.step {G : Nat} {va vp vo : Value} {p : Pnt} {w x y : World} (h : MS G va vp vo p w x) (hb : Below (G + 1) x y) : MS G va vp vo p w y :=
  ⟨(hb.cell (Nat.lt_succ_self _)).trans h.c0, (hb.cell (Nat.lt_succ_self _)).trans h.c1, (hb.cell (Nat.lt_succ_self _)).trans h.c2, (hb.cell (Nat.lt_succ_self _)).trans h.c3, (hb.cell (Nat.lt_succ_self _)).trans h.c4, fun j => (hb.frozen (p := ⟨G, j, none⟩) (Nat.lt_succ_self _)).trans (h.fz j), h.bel.trans (hb.mono (Nat.le_succ _)), Nat.le_trans h.sz hb.size⟩
theorem MS.after {G : Nat} {va vp vo : Value} {p : Pnt} {w x y : World} (h : MS G va vp vo p w x) (hb : Below x.heap.size x y) : MS G va vp vo p w y := h.step (hb.mono h.sz)
theorem MS.drew {G : Nat} {va vp vo : Value} {p : Pnt} {w x : World} (h : MS G va vp vo p w x) : MS G va vp vo p w x.drew := ⟨h.c0, h.c1, h.c2, h.c3, h.c4, h.fz, h.bel.drew, h.sz⟩
theorem MS.put0 {G : Nat} {va vp vo : Value} {p : Pnt} {w x : World} (h : MS G va vp vo p w x) (u : Value) : MS G u vp vo p w (x.setCell ⟨G, 0, none⟩ u) :=
  ⟨World.cell?_setCell_same _ _ _ h.c0, (World.cell?_setCell_other _ _ _ _ (by simp)).trans h.c1, (World.cell?_setCell_other _ _ _ _ (by simp)).trans h.c2, (World.cell?_setCell_other _ _ _ _ (by simp)).trans h.c3, (World.cell?_setCell_other _ _ _ _ (by simp)).trans h.c4, fun j => by rw [World.frozen?_setCell]; exact h.fz j, h.bel.setCell (Nat.le_refl _) _, by simpa [World.setCell] using h.sz⟩
theorem MS.put1 {G : Nat} {va vp vo : Value} {p : Pnt} {w x : World} (h : MS G va vp vo p w x) (u : Value) : MS G va u vo p w (x.setCell ⟨G, 1, none⟩ u) :=
  ⟨(World.cell?_setCell_other _ _ _ _ (by simp)).trans h.c0, World.cell?_setCell_same _ _ _ h.c1, (World.cell?_setCell_other _ _ _ _ (by simp)).trans h.c2, (World.cell?_setCell_other _ _ _ _ (by simp)).trans h.c3, (World.cell?_setCell_other _ _ _ _ (by simp)).trans h.c4, fun j => by rw [World.frozen?_setCell]; exact h.fz j, h.bel.setCell (Nat.le_refl _) _, by simpa [World.setCell] using h.sz⟩
theorem MS.put2 {G : Nat} {va vp vo : Value} {p : Pnt} {w x : World} (h : MS G va vp vo p w x) (u : Value) : MS G va vp u p w (x.setCell ⟨G, 2, none⟩ u) :=
  ⟨(World.cell?_setCell_other _ _ _ _ (by simp)).trans h.c0, (World.cell?_setCell_other _ _ _ _ (by simp)).trans h.c1, World.cell?_setCell_same _ _ _ h.c2, (World.cell?_setCell_other _ _ _ _ (by simp)).trans h.c3, (World.cell?_setCell_other _ _ _ _ (by simp)).trans h.c4, fun j => by rw [World.frozen?_setCell]; exact h.fz j, h.bel.setCell (Nat.le_refl _) _, by simpa [World.setCell] using h.sz⟩
theorem MS.putAt {G : Nat} {va vp vo : Value} {p : Pnt} {w x : World} (h : MS G va vp vo p w x) (q : Pnt) : MS G va vp vo q w ((x.setCell ⟨G, 3, none⟩ (.int .i64 q.1)).setCell ⟨G, 4, none⟩ (.int .i64 q.2)) :=
  ⟨(World.cell?_setCell_other _ _ _ _ (by simp)).trans ((World.cell?_setCell_other _ _ _ _ (by simp)).trans h.c0), (World.cell?_setCell_other _ _ _ _ (by simp)).trans ((World.cell?_setCell_other _ _ _ _ (by simp)).trans h.c1), (World.cell?_setCell_other _ _ _ _ (by simp)).trans ((World.cell?_setCell_other _ _ _ _ (by simp)).trans h.c2), (World.cell?_setCell_other _ _ _ _ (by simp)).trans (World.cell?_setCell_same _ _ _ h.c3), World.cell?_setCell_same _ _ _ ((World.cell?_setCell_other _ _ _ _ (by simp)).trans h.c4), fun j => by rw [World.frozen?_setCell, World.frozen?_setCell]; exact h.fz j, (h.bel.setCell (Nat.le_refl _) _).setCell (Nat.le_refl _) _, by simpa [World.setCell] using h.sz⟩

theorem sub_any {G gv cap k : Nat} {va vp : Value} {p : Pnt} {w x : World} (h : MS G va vp (.slice (some ⟨gv, 0, none⟩) (k + 1) cap) p w x) (hk : k ≤ 100000) :
    Calls Tryd.prog 47 #[.pointer (some ⟨G, 0, none⟩)] x fun e y => e = .returned (.pointer (some ⟨gv, k * 4, none⟩)) ∧ Below x.heap.size x y := by
  have c2 := h.c2
  have q1 : IntKind.i64.wrap (((k + 1 : Nat) : Int) - 1) = (k : Int) := by rw [IntWalk.i64_in _ (by omega)]; omega
  have q2 : (0 : Int) ≤ (k : Int) := by omega
  have q3 : (k : Int) < ((k + 1 : Nat) : Int) := by omega
  clear h
  go_enter Tryd.func47, Tryd.ntmps47
  go_wp2_with fail
  go_quiet (fail)
  go_wp2
  go_ret
  exact ⟨rfl, below_dN (Below.refl _ _) _⟩

theorem app_below {B : Nat} {x y : World} {e : TypeId} {k : Nat} {v v' : Value} {n m : Nat} {xs ys : List Value} (ap : Appd x y B e k v v' n xs) (hr : x.ownsRow B e k v m ys) (hB : B ≤ x.heap.size) : Below B x y :=
  (Below.refl _ _).grown ap.grew hB (ownsRow_ge hr)

theorem begin_any {G : Nat} {va vp vo : Value} {p q : Pnt} {w x : World} {out : List SubV} {cs : List Value} (h : MS G va vp vo p w x) (ho : OutC (G + 1) out x vo cs) (hl : out.length ≤ 100000) :
    Calls Tryd.prog 42 #[.pointer (some ⟨G, 0, none⟩), P2 q.1 q.2] x fun e y => e = .returned (.tuple #[]) ∧ ∃ vo', MS G va vp vo' q w y ∧ SpS (G + 1) out q [] false y vo' cs (.slice none 0 0) := by
  obtain ⟨qx, qy⟩ := q
  obtain ⟨i0, ki, kz0, kz1, kz2⟩ := info_parts info_sb
  obtain ⟨n, hn⟩ : ∃ n, out.length = n := ⟨_, rfl⟩
  obtain ⟨T, hT⟩ : ∃ T, x.heap.size = T := ⟨_, rfl⟩
  have hown := fun g hg => (ho.row.lt g hg).2
  have NT := Lib.hid (show some T ≠ vo.ownBlock from fun e => by have := hown _ e.symm; omega)
  have hGT : G < T := by have := h.sz; omega
  have HN := Lib.hid hn
  rw [hn] at hl
  clear hown
  dsimp only
  go_enter Tryd.func42, Tryd.ntmps42
  go_upto_region 1 with fail
  refine any_gen (fun z => (z.cell? ⟨T, 0, none⟩ = some (.int .i64 qx) ∧ z.cell? ⟨T, 1, none⟩ = some (.int .i64 qy)) ∧ T < z.heap.size ∧ MS G va vp vo p w z ∧ OutC (G + 1) out z vo cs) ⟨by subst hT; exact ⟨by simp, by simp⟩, by subst hT; simp, h.after ((Below.refl _ _).alloc (Nat.le_refl _) _), ho.step ((Below.refl _ _).alloc (Nat.le_refl _) _)⟩ ?_
  clear h ho
  rintro x1 ⟨⟨t0, t1⟩, hsT, hM, hO⟩
  have c2 := hM.c2
  have f2 := hM.fz 2
  have hGs := hM.sz
  have bal : Below x1.heap.size x1 (x1.alloc (.cells #[.int .i64 qx, .int .i64 qy, .slice none 0 0, .bool false] 48)).drew := ((Below.refl _ _).alloc (Nat.le_refl _) _).drew
  have hOd := hO.step bal
  have hMd := hM.after bal
  have ca2 : ∀ o : Obj, (x1.alloc o).cell? ⟨G, 2, none⟩ = some vo := fun o => (World.cell?_alloc_old _ _ _ (by (try dsimp only); omega)).trans c2
  have ca0 : ∀ o : Obj, (x1.alloc o).cell? ⟨T, 0, none⟩ = some (.int .i64 qx) := fun o => (World.cell?_alloc_old _ _ _ (by (try dsimp only); omega)).trans t0
  have ca1 : ∀ o : Obj, (x1.alloc o).cell? ⟨T, 1, none⟩ = some (.int .i64 qy) := fun o => (World.cell?_alloc_old _ _ _ (by (try dsimp only); omega)).trans t1
  have ROW := Lib.hid (show (x1.alloc (.cells #[.int .i64 qx, .int .i64 qy, .slice none 0 0, .bool false] 48)).drew.ownsRow (G + 1) 48 4 vo n cs by have := hOd.row; rw [hn] at this; exact this)
  have NW := Lib.hid (show ∀ (j : Nat) (u : Value), ([.int .i64 qx, .int .i64 qy, .slice none 0 0, .bool false] : List Value)[j]? = some u → ∃ ad, (some ⟨x1.heap.size, 0, none⟩ : Option Addr) = some ad ∧ (x1.alloc (.cells #[.int .i64 qx, .int .i64 qy, .slice none 0 0, .bool false] 48)).drew.cell? (ad.add j) = some u from fun j u hu => ⟨_, rfl, World.news_of_block (cs := #[.int .i64 qx, .int .i64 qy, .slice none 0 0, .bool false]) (t := 48) (fr := (0, 0)) (heap_alloc_new x1 _) j u hu⟩)
  have MID := Lib.hid (fun (w7 : World) (v7 : Value) (ap : Appd (x1.alloc (.cells #[.int .i64 qx, .int .i64 qy, .slice none 0 0, .bool false] 48)).drew w7 (G + 1) 48 4 vo v7 (n + 1) (cs ++ [.int .i64 qx, .int .i64 qy, .slice none 0 0, .bool false])) =>
    (show MS G va vp vo p w w7 ∧ SpS (G + 1) out (qx, qy) [] false w7 v7 cs (.slice none 0 0) ∧ w7.cell? ⟨T, 0, none⟩ = some (.int .i64 qx) ∧ w7.cell? ⟨T, 1, none⟩ = some (.int .i64 qy) from
      ⟨hMd.step (app_below ap hOd.row hMd.sz), hOd.begin_ (qx, qy) (by rw [hn]; exact ap), ap.grew.cell (ca0 _) NT.out, ap.grew.cell (ca1 _) NT.out⟩))
  clear hOd hMd bal hn hM hO
  go_wp2_with fail
  go_region_law (refine step_append_full (by rfl) _ _ (by rfl) (G + 1) i0 _ 4 48 und_sbs und_sbs ki kz0 kz1 kz2 rfl (by omega) vo n cs (by rfl) ROW.out (some ⟨x1.heap.size, 0, none⟩) 1 1 [.int .i64 qx, .int .i64 qy, .slice none 0 0, .bool false] (by rfl) (by rfl) NW.out (by simp [Value.oneCell']) (by simp) (by simp [maxLen]; omega) (by omega) (by simp; omega) ?_; intro a7 c7 w7 ap7; obtain ⟨hM7, hS7, u0, u1⟩ := MID.out _ _ ap7; have y2 := hM7.c2; have g2 := hM7.fz 2; have HM7 := Lib.hid hM7; have HS7 := Lib.hid hS7; clear hM7 hS7 ap7)
  all_goals
    have hM8 := HM7.out.put2 (.slice a7 (n + 1) c7)
    have hS8 := HS7.out.setG 2 (.slice a7 (n + 1) c7)
    have u2 := (World.cell?_setCell_far w7 ⟨G, 2, none⟩ ⟨T, 0, none⟩ (.slice a7 (n + 1) c7) (show G ≠ T by omega)).trans u0
    have u3 := (World.cell?_setCell_far w7 ⟨G, 2, none⟩ ⟨T, 1, none⟩ (.slice a7 (n + 1) c7) (show G ≠ T by omega)).trans u1
    go_upto_region 2 with fail
    refine any_gen (fun z => (z.cell? ⟨T, 0, none⟩ = some (.int .i64 qx) ∧ z.cell? ⟨T, 1, none⟩ = some (.int .i64 qy)) ∧ MS G va vp (.slice a7 (n + 1) c7) p w z ∧ SpS (G + 1) out (qx, qy) [] false z (.slice a7 (n + 1) c7) cs (.slice none 0 0)) ⟨⟨u2, u3⟩, hM8, hS8⟩ ?_
    clear hM8 hS8 u0 u1 u2 u3 y2 g2 HM7 HS7
    rintro x9 ⟨⟨t0, t1⟩, hM, hS⟩
    have e3 := hM.c3; have e4 := hM.c4; have f3 := hM.fz 3; have f4 := hM.fz 4
    have hM9 := Lib.hid (hM.putAt (qx, qy))
    have hS9 := Lib.hid ((hS.setG 3 (.int .i64 qx)).setG 4 (.int .i64 qy))
    clear hM hS
    go_wp2
    go_end0
    exact ⟨rfl, _, hM9.out, hS9.out⟩
theorem seg_row (p : Pnt) (pts : List Pnt) (hk : pts.length = 1 ∨ pts.length = 2 ∨ pts.length = 3) :
    (#[.int .i64 p.1, .int .i64 p.2, .int .i64 0, .int .i64 0, .int .i64 0, .int .i64 0, .int .i64 0, .int .i64 0, .int .i64 ((pts.length : Int) + 1)] : Array Value).toList.take 2 ++ flatP pts ++ (#[.int .i64 p.1, .int .i64 p.2, .int .i64 0, .int .i64 0, .int .i64 0, .int .i64 0, .int .i64 0, .int .i64 0, .int .i64 ((pts.length : Int) + 1)] : Array Value).toList.drop (2 + (flatP pts).length) = segC (segV p pts) := by
  match pts, hk with
  | [a], _ => rfl
  | [a, b], _ => rfl
  | [a, b, c], _ => rfl
  | [], h => simp at h
  | _ :: _ :: _ :: _ :: _, h => simp at h
theorem setRow_below (x : World) (g : Nat) (cs : Array Value) (B : Nat) (hB : B ≤ g) : Below B x (x.setRow g cs) := ⟨rfl, rfl, rfl, by simp [World.setRow], fun k hk => setRow_other x g k cs (by omega)⟩

theorem draw_any {G gv cap : Nat} {va vp : Value} {p q : Pnt} {w x : World} {o : List SubV} {sg : List SegV} {b : Bool} {cs : List Value} {sv : Value} (ad : Addr) (c : Nat) (pts : List Pnt)
    (h : MS G va vp (.slice (some ⟨gv, 0, none⟩) (o.length + 1) cap) p w x) (hs : SpS (G + 1) o q sg b x (.slice (some ⟨gv, 0, none⟩) (o.length + 1) cap) cs sv)
    (hq : Cor x x.heap.size (some ad) pts) (hk : pts.length = 1 ∨ pts.length = 2 ∨ pts.length = 3) (hl : o.length ≤ 100000) (hl2 : sg.length ≤ 100000) :
    Calls Tryd.prog 44 #[.pointer (some ⟨G, 0, none⟩), .slice (some ad) pts.length c] x fun e y => e = .returned (.tuple #[]) ∧ ∃ sv', MS G va vp (.slice (some ⟨gv, 0, none⟩) (o.length + 1) cap) (endV (segV p pts)) w y ∧
      SpS (G + 1) o q (sg ++ [segV p pts]) b y (.slice (some ⟨gv, 0, none⟩) (o.length + 1) cap) cs sv' := by
  obtain ⟨i0, ki, kz0, kz1, kz2⟩ := info_parts info_sg
  have hsz2 : (Tryd.prog.info? 44).map (·.size) = some 2 := by
    obtain ⟨i1, hi, hz0, hz1, hz2⟩ := info_parts info_pt
    rw [hi]; simp [hz1]
  obtain ⟨As, c9, rfl, -, -⟩ := row_form hs.seg
  obtain ⟨px, py⟩ := p
  obtain ⟨k, hkk⟩ : ∃ k, pts.length = k := ⟨_, rfl⟩
  obtain ⟨m, hm⟩ : ∃ m, o.length = m := ⟨_, rfl⟩
  obtain ⟨n, hn⟩ : ∃ n, sg.length = n := ⟨_, rfl⟩
  obtain ⟨T, hT⟩ : ∃ T, x.heap.size = T := ⟨_, rfl⟩
  have hrow := Lib.hid (seg_row (px, py) pts hk)
  dsimp only at hrow
  obtain ⟨S, hS⟩ : ∃ S, segV (px, py) pts = S := ⟨_, rfl⟩
  rw [hS] at hrow ⊢
  rw [hkk] at hrow hk ⊢
  have hfl : (flatP pts).length = k * 2 := by rw [flatP_length, hkk]
  obtain ⟨ck1, ck2, ck3, ck4, cfz, cB, clt⟩ := hs.cells
  rw [hm] at ck1 ck2 ck3 ck4 hl
  have hGT : G < T := by have := h.sz; omega
  have hgT : gv < T := by omega
  have nsv := hs.ne
  rw [hn] at ck3
  have NSV := Lib.hid (show some gv ≠ (Value.slice As n c9).ownBlock from fun e => by rw [← hn] at e; exact nsv gv e.symm rfl)
  have sown := fun g hg => (hs.seg.lt g hg).2
  rw [hn] at sown
  have NST := Lib.hid (show some T ≠ (Value.slice As n c9).ownBlock from fun e => by have := sown _ e.symm; omega)
  have e3 := h.c3; have e4 := h.c4
  dsimp only at e3 e4
  have HH := Lib.hid h
  have HS := Lib.hid hs
  have HQ := Lib.hid hq
  have HM := Lib.hid hm
  have HN := Lib.hid hn
  rw [hn] at hl2
  have HF := Lib.hid hfl
  have HK := Lib.hid hkk
  have w0 : IntKind.i64.wrap ((k : Int) + 1) = (k : Int) + 1 := IntWalk.i64_in _ (by omega)
  clear h hs hq nsv sown hfl hkk hm hn
  go_enter Tryd.func44, Tryd.ntmps44
  go_upto_region 1 with fail
  refine any_gen (fun z => z.heap[T]? = some (.cells #[.int .i64 px, .int .i64 py, .int .i64 0, .int .i64 0, .int .i64 0, .int .i64 0, .int .i64 0, .int .i64 0, .int .i64 ((k : Int) + 1)] 51 (0, 0)) ∧ Below T x z) ⟨by subst hT; exact heap_alloc_new _ _, by subst hT; exact (Below.refl _ _).alloc (Nat.le_refl _) _⟩ ?_
  rintro x1 ⟨hP, hb1⟩
  have HB1 := Lib.hid hb1
  have hq1 := news_of_cor ((HQ.out.step (hT ▸ hb1)))
  have HQ1 := Lib.hid (fun j u hu => by
    obtain ⟨ad', e, hc⟩ := hq1 j u hu
    obtain rfl := Option.some.inj e
    exact (show x1.cell? (ad.add j) = some u from hc))
  have HP1 := Lib.hid hP
  clear hq1 hP hb1
  iterate 10 (first | go_step | go_simp)
  refine wpList_copy_two rfl _ _ _ _ rfl 44 und_ps hsz2 T 2 3 3 ad k c (by rfl) (by rfl) _ _ HP1.out (flatP pts) (by rw [HF.out]; congr 1; show k = min k 3; omega) HQ1.out (by rw [HF.out]; simp; omega) (flat_one pts) ?_
  have hP2 := setRow_heap x1 T _ (segC S).toArray _ _ HP1.out
  have hb2 : Below T x (x1.setRow T (segC S).toArray) := HB1.out.trans (setRow_below _ _ _ _ (Nat.le_refl _))
  rw [hrow.out]
  go_upto_region 2 with fail
  refine any_gen (fun z => z.heap[T]? = some (.cells (segC S).toArray 51 (0, 0)) ∧ Below T x z) ⟨hP2, hb2⟩ ?_
  clear hP2 hb2 HP1 HQ1 HB1
  rintro x2 ⟨hP, hb⟩
  have hlt2 : T < x2.heap.size := by
    rcases Nat.lt_or_ge T x2.heap.size with h | h
    · exact h
    · rw [Array.getElem?_eq_none h] at hP; cases hP
  have hxT : Below x.heap.size x x2 := by rw [hT]; exact hb
  have HM2 := Lib.hid (HH.out.after hxT)
  have HS2 := Lib.hid (HS.out.step hxT)
  have SU0 := sub_any (k := o.length) HM2.out (by rw [HM.out]; exact hl)
  rw [HM.out] at SU0
  have SU := Lib.hid SU0
  have HP := Lib.hid hP
  clear SU0 hP hb hxT e3 e4 ck1 ck2 ck3 ck4 cfz
  go_wp2_with fail
  refine (SU.out).mono ?_
  rintro e x3 ⟨rfl, h3⟩
  have hlt3 : T < x3.heap.size := Nat.lt_of_lt_of_le hlt2 h3.size
  have hP3 := (h3.block T hlt2).trans HP.out
  have hM3 := HM2.out.after h3
  have hS3 := HS2.out.step h3
  obtain ⟨-, -, d3, -, dfz, -, -⟩ := hS3.cells
  rw [HM.out, HN.out] at d3
  have fz2 := dfz (m * 4 + 2)
  obtain ⟨⟨⟨a, b'⟩, ⟨c', d⟩, ⟨e, f⟩, ⟨g, h⟩⟩, n'⟩ := S
  have t0 : x3.cell? ⟨T, 0, none⟩ = some (.int .i64 a) := (blk_cell hP3 (j := 0) rfl).1
  have t1 : x3.cell? ⟨T, 1, none⟩ = some (.int .i64 b') := (blk_cell hP3 (j := 1) rfl).1
  have t2 : x3.cell? ⟨T, 2, none⟩ = some (.int .i64 c') := (blk_cell hP3 (j := 2) rfl).1
  have t3 : x3.cell? ⟨T, 3, none⟩ = some (.int .i64 d) := (blk_cell hP3 (j := 3) rfl).1
  have t4 : x3.cell? ⟨T, 4, none⟩ = some (.int .i64 e) := (blk_cell hP3 (j := 4) rfl).1
  have t5 : x3.cell? ⟨T, 5, none⟩ = some (.int .i64 f) := (blk_cell hP3 (j := 5) rfl).1
  have t6 : x3.cell? ⟨T, 6, none⟩ = some (.int .i64 g) := (blk_cell hP3 (j := 6) rfl).1
  have t7 : x3.cell? ⟨T, 7, none⟩ = some (.int .i64 h) := (blk_cell hP3 (j := 7) rfl).1
  have t8 : x3.cell? ⟨T, 8, none⟩ = some (.int .i64 n') := (blk_cell hP3 (j := 8) rfl).1
  have bal : Below x3.heap.size x3 (x3.alloc (.cells (segC (((a, b'), (c', d), (e, f), (g, h)), n')).toArray 51)).drew := ((Below.refl _ _).alloc (Nat.le_refl _) _).drew
  have hMd := hM3.after bal
  have hSd := hS3.step bal
  have hgv3 : gv < x3.heap.size := by omega
  have HSd := Lib.hid hSd
  have HMd := Lib.hid hMd
  have hGs3 := hM3.sz
  have ca : ∀ (j : Nat) (u : Value) (o : Obj), x3.cell? ⟨T, j, none⟩ = some u → (x3.alloc o).cell? ⟨T, j, none⟩ = some u := fun j u o hu => (World.cell?_alloc_old _ _ _ (by (try dsimp only); omega)).trans hu
  have a0 := fun o => ca 0 _ o t0; have a1 := fun o => ca 1 _ o t1; have a2 := fun o => ca 2 _ o t2; have a3 := fun o => ca 3 _ o t3; have a4 := fun o => ca 4 _ o t4
  have a5 := fun o => ca 5 _ o t5; have a6 := fun o => ca 6 _ o t6; have a7 := fun o => ca 7 _ o t7; have a8 := fun o => ca 8 _ o t8
  have cg : ∀ o : Obj, (x3.alloc o).cell? ⟨gv, m * 4 + 2, none⟩ = some (.slice As n c9) := fun o => (World.cell?_alloc_old _ _ _ (by (try dsimp only); omega)).trans d3
  have hP4 : (x3.alloc (.cells (segC (((a, b'), (c', d), (e, f), (g, h)), n')).toArray 51)).drew.heap[T]? = some (.cells (segC (((a, b'), (c', d), (e, f), (g, h)), n')).toArray 51 (0, 0)) := (bal.block T hlt3).trans hP3
  have ROW := Lib.hid (show (x3.alloc (.cells (segC (((a, b'), (c', d), (e, f), (g, h)), n')).toArray 51)).drew.ownsRow (G + 1) 51 9 (.slice As n c9) n (flatG sg) by have := hSd.seg; rw [HN.out] at this; exact this)
  have NW := Lib.hid (show ∀ (j : Nat) (u : Value), (segC (((a, b'), (c', d), (e, f), (g, h)), n'))[j]? = some u → ∃ ad, (some ⟨x3.heap.size, 0, none⟩ : Option Addr) = some ad ∧ (x3.alloc (.cells (segC (((a, b'), (c', d), (e, f), (g, h)), n')).toArray 51)).drew.cell? (ad.add j) = some u from fun j u hu => ⟨_, rfl, World.news_of_block (cs := (segC (((a, b'), (c', d), (e, f), (g, h)), n')).toArray) (t := 51) (fr := (0, 0)) (heap_alloc_new x3 _) j u (by simpa using hu)⟩)
  have MID := Lib.hid (fun (w7 : World) (v7 : Value) (ap : Appd (x3.alloc (.cells (segC (((a, b'), (c', d), (e, f), (g, h)), n')).toArray 51)).drew w7 (G + 1) 51 9 (.slice As n c9) v7 (n + 1) (flatG sg ++ segC (((a, b'), (c', d), (e, f), (g, h)), n'))) =>
    (show MS G va vp (.slice (some ⟨gv, 0, none⟩) (o.length + 1) cap) (px, py) w w7 ∧ SpS (G + 1) o q (sg ++ [(((a, b'), (c', d), (e, f), (g, h)), n')]) b (w7.setCell ⟨gv, o.length * 4 + 2, none⟩ v7) (.slice (some ⟨gv, 0, none⟩) (o.length + 1) cap) cs v7 ∧ w7.heap[T]? = some (.cells (segC (((a, b'), (c', d), (e, f), (g, h)), n')).toArray 51 (0, 0)) ∧ w7.cell? ⟨gv, m * 4 + 2, none⟩ = some (.slice As n c9) ∧ w7.frozen? ⟨gv, m * 4 + 2, none⟩ = false from
      ⟨HMd.out.step (app_below ap ROW.out HMd.out.sz), HSd.out.more (((a, b'), (c', d), (e, f), (g, h)), n') (by have := HN.out; rw [this]; exact ap), (ap.grew.block T (by simp; omega) NST.out).trans hP4, ap.grew.cell (cg _) NSV.out, (World.frozen?_of_block (a := ⟨gv, m * 4 + 2, none⟩) (ap.grew.block gv (by simp; omega) NSV.out)).trans ((bal.frozen (p := ⟨gv, m * 4 + 2, none⟩) hgv3).trans fz2)⟩))
  clear hMd hSd bal hP4 hM3 hS3 dfz hP3 h3
  go_wp2_with fail
  go_region_law (refine step_append_full (by rfl) _ _ (by rfl) (G + 1) i0 _ 9 72 und_sgs und_sgs ki kz0 kz1 kz2 rfl (by omega) (.slice As n c9) n (flatG sg) (by rfl) ROW.out (some ⟨x3.heap.size, 0, none⟩) 1 1 (segC (((a, b'), (c', d), (e, f), (g, h)), n')) (by rfl) (by rfl) NW.out (by simp [segC, Value.oneCell']) (by simp) (by simp [maxLen]; omega) (by omega) (by simp; omega) ?_; intro a9 c8 w7 ap7; obtain ⟨hM7, hS7, hP7, y2, g2⟩ := MID.out _ _ ap7; have HM7 := Lib.hid hM7; have HS7 := Lib.hid hS7; have HP7 := Lib.hid hP7; clear hM7 hS7 hP7 ap7)
  all_goals
    have bs : Below (G + 1) w7 (w7.setCell ⟨gv, m * 4 + 2, none⟩ (.slice a9 (n + 1) c8)) := (Below.refl _ _).setCell (p := ⟨gv, m * 4 + 2, none⟩) (by dsimp only; omega) _
    have hlt7 : T < w7.heap.size := by
      have := HP7.out
      rcases Nat.lt_or_ge T w7.heap.size with h | h
      · exact h
      · rw [Array.getElem?_eq_none h] at this; cases this
    have hM8 := HM7.out.step bs
    have hS8 := HS7.out
    have hP8 : (w7.setCell ⟨gv, m * 4 + 2, none⟩ (.slice a9 (n + 1) c8)).heap[T]? = some (.cells (segC (((a, b'), (c', d), (e, f), (g, h)), n')).toArray 51 (0, 0)) := ((grown_set7 w7 ⟨gv, m * 4 + 2, none⟩ (.slice a9 (n + 1) c8)).block T hlt7 (fun e => by have := Option.some.inj e; dsimp only at this; omega)).trans HP7.out
    rw [HM.out] at hS8
    go_upto_region 4 with fail
    refine any_gen (fun z => MS G va vp (.slice (some ⟨gv, 0, none⟩) (o.length + 1) cap) (px, py) w z ∧ SpS (G + 1) o q (sg ++ [(((a, b'), (c', d), (e, f), (g, h)), n')]) b z (.slice (some ⟨gv, 0, none⟩) (o.length + 1) cap) cs (.slice a9 (n + 1) c8) ∧ z.heap[T]? = some (.cells (segC (((a, b'), (c', d), (e, f), (g, h)), n')).toArray 51 (0, 0))) ⟨hM8, by rw [HM.out]; exact hS8, hP8⟩ ?_
    clear hM8 hS8 hP8 bs hlt7 HM7 HS7 HP7 y2 g2 t0 t1 t2 t3 t4 t5 t6 t7 t8 a0 a1 a2 a3 a4 a5 a6 a7 a8 cg d3
    rintro x4 ⟨hM, hS, hP⟩
    have t0 : x4.cell? ⟨T, 0, none⟩ = some (.int .i64 a) := (blk_cell hP (j := 0) rfl).1
    have t1 : x4.cell? ⟨T, 1, none⟩ = some (.int .i64 b') := (blk_cell hP (j := 1) rfl).1
    have t2 : x4.cell? ⟨T, 2, none⟩ = some (.int .i64 c') := (blk_cell hP (j := 2) rfl).1
    have t3 : x4.cell? ⟨T, 3, none⟩ = some (.int .i64 d) := (blk_cell hP (j := 3) rfl).1
    have t4 : x4.cell? ⟨T, 4, none⟩ = some (.int .i64 e) := (blk_cell hP (j := 4) rfl).1
    have t5 : x4.cell? ⟨T, 5, none⟩ = some (.int .i64 f) := (blk_cell hP (j := 5) rfl).1
    have t6 : x4.cell? ⟨T, 6, none⟩ = some (.int .i64 g) := (blk_cell hP (j := 6) rfl).1
    have t7 : x4.cell? ⟨T, 7, none⟩ = some (.int .i64 h) := (blk_cell hP (j := 7) rfl).1
    have t8 : x4.cell? ⟨T, 8, none⟩ = some (.int .i64 n') := (blk_cell hP (j := 8) rfl).1
    have EN := Lib.hid (q7end_any a b' c' d e f g h n' x4)
    have HM4 := Lib.hid hM
    have HS4 := Lib.hid hS
    clear hM hS hP
    go_wp2_with fail
    refine (EN.out).mono ?_
    rintro e' x5 ⟨rfl, h5⟩
    have hM5 := HM4.out.after h5
    have hS5 := HS4.out.step h5
    have e3 := hM5.c3; have e4 := hM5.c4; have f3 := hM5.fz 3; have f4 := hM5.fz 4
    have hM9 := Lib.hid (hM5.putAt (endV (((a, b'), (c', d), (e, f), (g, h)), n')))
    have hS9 := Lib.hid ((hS5.setG 3 (.int .i64 (endV (((a, b'), (c', d), (e, f), (g, h)), n')).1)).setG 4 (.int .i64 (endV (((a, b'), (c', d), (e, f), (g, h)), n')).2))
    clear hM5 hS5 h5
    go_wp2
    go_end0
    exact ⟨rfl, _, hM9.out, hS9.out⟩
end Go.Proofs.YtalgmnnimfenpaaDoor.Q7
