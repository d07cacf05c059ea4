/- The walk of PieceBox: what a piece has lies in its box; each side of the box is reached by a corner. -/
import Derived.Test.YtlgfnhapjhoelaaShown6
import Derived.Test.YtlgfnhapjhoelaaBoxNum
import Derived.ChangeKeysEq
namespace Go.Proofs.Ytlgfnhapjhoelaa
open Go.RowKit
set_option linter.unusedVariables false
set_option linter.unusedSimpArgs false
set_option maxHeartbeats 4000000
set_option maxRecDepth 100000

theorem und_arr : Try.prog.underlying 51 = some (.array 4 4) := by kernel_rfl
theorem und_bool : Try.prog.underlying 4 = some .bool := by kernel_rfl
theorem info_bool : (Try.prog.info? 4).isSome = true := by kernel_rfl
theorem cells_bool : Try.prog.cellsOf 4 = 1 := by kernel_rfl
theorem eq_bool (d : Nat) (w : World) (a b : Bool) : Sem.run Try.prog (Op.equalIn (d + 1) 4 (.bool a) (.bool b)) w = Result.ok (a == b) w := by
  simp [Op.equalIn, run_underlying und_bool]
/-- Four times true is four times true. -/
theorem eq_arr (w : World) : Sem.run Try.prog (Op.equalIn 10000 51 (Value.agg #[Value.bool true, Value.bool true, Value.bool true, Value.bool true]) (Value.agg #[Value.bool true, Value.bool true, Value.bool true, Value.bool true])) w = Result.ok true w := by
  obtain ⟨i, hi⟩ := Option.isSome_iff_exists.1 info_bool
  refine (run_equalIn_array w 9999 _ _ und_arr hi).trans ?_
  rw [cells_bool]
  generalize hd : (9998 : Nat) = d
  rw [show (9999 : Nat) = d + 1 by omega]
  simp [List.range, List.range.loop, Op.eqItems, eq_bool, go_sem]

/-- What was reached so far, at block g; what is older than g is as it was. -/
structure RB (g : Nat) (r0 r1 r2 r3 : Bool) (w x : World) : Prop where
  c0 : x.cell? ⟨g, 0, none⟩ = some (.bool r0)
  c1 : x.cell? ⟨g, 1, none⟩ = some (.bool r1)
  c2 : x.cell? ⟨g, 2, none⟩ = some (.bool r2)
  c3 : x.cell? ⟨g, 3, none⟩ = some (.bool r3)
  fz : ∀ i, x.frozen? ⟨g, i, none⟩ = false
  bel : Below g w x
theorem RB.drewN {g : Nat} {r0 r1 r2 r3 : Bool} {w x : World} (h : RB g r0 r1 r2 r3 w x) (n : Nat) : RB g r0 r1 r2 r3 w (x.drewN n) := ⟨h.c0, h.c1, h.c2, h.c3, h.fz, h.bel.trans ⟨rfl, rfl, rfl, Nat.le_refl _, fun _ _ => rfl⟩⟩
theorem RB.put0 {g : Nat} {r0 r1 r2 r3 : Bool} {w x : World} (h : RB g r0 r1 r2 r3 w x) (b : Bool) (hg : w.heap.size ≤ g) : RB g b r1 r2 r3 w (x.setCell ⟨g, 0, none⟩ (.bool b)) :=
  ⟨World.cell?_setCell_same _ _ _ h.c0, (World.cell?_setCell_other _ _ _ _ (by simp)).trans h.c1, (World.cell?_setCell_other _ _ _ _ (by simp)).trans h.c2, (World.cell?_setCell_other _ _ _ _ (by simp)).trans h.c3, fun i => by rw [World.frozen?_setCell]; exact h.fz i, h.bel.setCell (Nat.le_refl _) _⟩
theorem RB.put1 {g : Nat} {r0 r1 r2 r3 : Bool} {w x : World} (h : RB g r0 r1 r2 r3 w x) (b : Bool) (hg : w.heap.size ≤ g) : RB g r0 b r2 r3 w (x.setCell ⟨g, 1, none⟩ (.bool b)) :=
  ⟨(World.cell?_setCell_other _ _ _ _ (by simp)).trans h.c0, World.cell?_setCell_same _ _ _ h.c1, (World.cell?_setCell_other _ _ _ _ (by simp)).trans h.c2, (World.cell?_setCell_other _ _ _ _ (by simp)).trans h.c3, fun i => by rw [World.frozen?_setCell]; exact h.fz i, h.bel.setCell (Nat.le_refl _) _⟩
theorem RB.put2 {g : Nat} {r0 r1 r2 r3 : Bool} {w x : World} (h : RB g r0 r1 r2 r3 w x) (b : Bool) (hg : w.heap.size ≤ g) : RB g r0 r1 b r3 w (x.setCell ⟨g, 2, none⟩ (.bool b)) :=
  ⟨(World.cell?_setCell_other _ _ _ _ (by simp)).trans h.c0, (World.cell?_setCell_other _ _ _ _ (by simp)).trans h.c1, World.cell?_setCell_same _ _ _ h.c2, (World.cell?_setCell_other _ _ _ _ (by simp)).trans h.c3, fun i => by rw [World.frozen?_setCell]; exact h.fz i, h.bel.setCell (Nat.le_refl _) _⟩
theorem RB.put3 {g : Nat} {r0 r1 r2 r3 : Bool} {w x : World} (h : RB g r0 r1 r2 r3 w x) (b : Bool) (hg : w.heap.size ≤ g) : RB g r0 r1 r2 b w (x.setCell ⟨g, 3, none⟩ (.bool b)) :=
  ⟨(World.cell?_setCell_other _ _ _ _ (by simp)).trans h.c0, (World.cell?_setCell_other _ _ _ _ (by simp)).trans h.c1, (World.cell?_setCell_other _ _ _ _ (by simp)).trans h.c2, World.cell?_setCell_same _ _ _ h.c3, fun i => by rw [World.frozen?_setCell]; exact h.fz i, h.bel.setCell (Nat.le_refl _) _⟩
theorem any_take {α : Type} (l : List α) (f : α → Bool) (k : Nat) {p : α} (hp : l[k]? = some p) : (l.take (k + 1)).any f = ((l.take k).any f || f p) := by
  have hk := (List.getElem?_eq_some_iff.1 hp).1
  rw [List.take_succ_eq_append_getElem hk, List.any_append, (List.getElem?_eq_some_iff.1 hp).2]
  simp

theorem box_far (A : Option Addr) (cap : Nat) (l : List Pnt) (s t : Int) (w : World) (hr : Cor w w.heap.size A l) (hl : l.length ≤ 9223372036854775807) (hb : boundedV l = false) :
    Calls Try.prog 8 #[.slice A l.length cap, P2 s t] w fun e w' => e = .returned (.bool true) ∧ Below w.heap.size w w' := by
  have HR := Lib.hid hr
  clear hr
  obtain ⟨n, hn⟩ : ∃ n, l.length = n := ⟨_, rfl⟩
  rw [hn] at hl ⊢
  have HN := Lib.hid hn
  have BND := Lib.hid (fun w hr => (hn ▸ bounded_any A cap l w hr (hn.symm ▸ hl) : Calls Try.prog 9 #[.slice A n cap] w _))
  have HB := Lib.hid hb
  clear hb hn
  go_enter Try.func8, Try.ntmps8
  go_wp2_with fail
  refine (BND.out _ (HR.out.step ((Below.refl _ _).alloc (Nat.le_refl _) _) |>.more (by simp))).mono ?_
  rintro e w1 ⟨rfl, h1⟩
  rw [HB.out]
  have hbW := (show Below w.heap.size w _ from (by repeat (first | exact Below.refl _ _ | assumption | refine below_dN ?_ _ | refine Below.setCell ?_ (by first | (simp; done) | (simp; omega) | omega) _ | refine Below.alloc ?_ (by first | (simp; done) | (simp; omega) | omega) _))).trans (h1.mono (by simp))
  clear h1
  go_wp2_with fail
  refine (shown6_any _).mono ?_
  rintro e w2 ⟨rfl, h2⟩
  go_wp2
  go_ret
  exact ⟨rfl, hbW.trans (h2.mono hbW.size)⟩

theorem box_far2 (A : Option Addr) (cap : Nat) (l : List Pnt) (s t : Int) (w : World) (hr : Cor w w.heap.size A l) (hl : l.length ≤ 9223372036854775807) (hb : boundedV l = true) (hq : boundedV [(s, t)] = false) :
    Calls Try.prog 8 #[.slice A l.length cap, P2 s t] w fun e w' => e = .returned (.bool true) ∧ Below w.heap.size w w' := by
  have HQ := Lib.hid hq
  clear hq
  have HR := Lib.hid hr
  clear hr
  obtain ⟨n, hn⟩ : ∃ n, l.length = n := ⟨_, rfl⟩
  rw [hn] at hl ⊢
  have HN := Lib.hid hn
  have BND := Lib.hid (fun w hr => (hn ▸ bounded_any A cap l w hr (hn.symm ▸ hl) : Calls Try.prog 9 #[.slice A n cap] w _))
  have HB := Lib.hid hb
  clear hb hn
  go_enter Try.func8, Try.ntmps8
  go_wp2_with fail
  refine (BND.out _ (HR.out.step ((Below.refl _ _).alloc (Nat.le_refl _) _) |>.more (by simp))).mono ?_
  rintro e w1 ⟨rfl, h1⟩
  rw [HB.out]
  have z1 := h1.size
  simp at z1
  obtain ⟨c1, c2, hb0⟩ : w1.cell? ⟨w.heap.size, 0, none⟩ = some (.int .i64 s) ∧ w1.cell? ⟨w.heap.size, 1, none⟩ = some (.int .i64 t) ∧ Below w.heap.size w w1 := ⟨(h1.cell (p := ⟨w.heap.size, 0, none⟩) (by simp)).trans (by simp), (h1.cell (p := ⟨w.heap.size, 1, none⟩) (by simp)).trans (by simp), (show Below w.heap.size w _ from (by repeat (first | exact Below.refl _ _ | assumption | refine below_dN ?_ _ | refine Below.setCell ?_ (by first | (simp; done) | (simp; omega) | omega) _ | refine Below.alloc ?_ (by first | (simp; done) | (simp; omega) | omega) _))).trans (h1.mono (by simp))⟩
  clear h1
  go_wp2_with fail
  refine (bounded_any (some ⟨w1.heap.size, 0, none⟩) 1 [(s, t)] _ (cor_lit' _ _ _ _ [(s, t)] _ rfl rfl (by simp)) (by simp)).mono ?_
  rintro e w2 ⟨rfl, h2⟩
  rw [HQ.out]
  have h2b := (show Below w1.heap.size w1 _ from (Below.refl _ _).alloc (Nat.le_refl _) _).trans (h2.mono (by simp))
  replace c1 := (h2b.cell (by dsimp only; omega)).trans c1
  replace c2 := (h2b.cell (by dsimp only; omega)).trans c2
  replace hb0 := hb0.trans (h2b.mono (by omega))
  have z2 := h2b.size
  clear h2 h2b
  go_wp2_with fail
  refine (shown6_any _).mono ?_
  rintro e w3 ⟨rfl, h3⟩
  go_wp2
  go_ret
  exact ⟨rfl, hb0.trans (h3.mono hb0.size)⟩

theorem box_none (A : Option Addr) (cap : Nat) (l : List Pnt) (s t : Int) (w : World) (hr : Cor w w.heap.size A l) (hl : l.length ≤ 9223372036854775807) (hb : boundedV l = true) (hq : boundedV [(s, t)] = true) (h0 : l.length = 0) :
    Calls Try.prog 8 #[.slice A l.length cap, P2 s t] w fun e w' => e = .returned (.bool true) ∧ Below w.heap.size w w' := by
  have HQ := Lib.hid hq
  clear hq
  have HR := Lib.hid hr
  clear hr
  obtain ⟨n, hn⟩ : ∃ n, l.length = n := ⟨_, rfl⟩
  rw [hn] at hl ⊢
  have HN := Lib.hid hn
  have q0 : n = 0 := by rw [← hn]; exact h0
  have q1 : ((n : Int) == 0) = true := by simp; omega
  clear h0 q0
  have BND := Lib.hid (fun w hr => (hn ▸ bounded_any A cap l w hr (hn.symm ▸ hl) : Calls Try.prog 9 #[.slice A n cap] w _))
  have HB := Lib.hid hb
  clear hb hn
  go_enter Try.func8, Try.ntmps8
  go_wp2_with fail
  refine (BND.out _ (HR.out.step ((Below.refl _ _).alloc (Nat.le_refl _) _) |>.more (by simp))).mono ?_
  rintro e w1 ⟨rfl, h1⟩
  rw [HB.out]
  have z1 := h1.size
  simp at z1
  obtain ⟨c1, c2, hb0⟩ : w1.cell? ⟨w.heap.size, 0, none⟩ = some (.int .i64 s) ∧ w1.cell? ⟨w.heap.size, 1, none⟩ = some (.int .i64 t) ∧ Below w.heap.size w w1 := ⟨(h1.cell (p := ⟨w.heap.size, 0, none⟩) (by simp)).trans (by simp), (h1.cell (p := ⟨w.heap.size, 1, none⟩) (by simp)).trans (by simp), (show Below w.heap.size w _ from (by repeat (first | exact Below.refl _ _ | assumption | refine below_dN ?_ _ | refine Below.setCell ?_ (by first | (simp; done) | (simp; omega) | omega) _ | refine Below.alloc ?_ (by first | (simp; done) | (simp; omega) | omega) _))).trans (h1.mono (by simp))⟩
  clear h1
  go_wp2_with fail
  refine (bounded_any (some ⟨w1.heap.size, 0, none⟩) 1 [(s, t)] _ (cor_lit' _ _ _ _ [(s, t)] _ rfl rfl (by simp)) (by simp)).mono ?_
  rintro e w2 ⟨rfl, h2⟩
  rw [HQ.out]
  have h2b := (show Below w1.heap.size w1 _ from (Below.refl _ _).alloc (Nat.le_refl _) _).trans (h2.mono (by simp))
  replace c1 := (h2b.cell (by dsimp only; omega)).trans c1
  replace c2 := (h2b.cell (by dsimp only; omega)).trans c2
  replace hb0 := hb0.trans (h2b.mono (by omega))
  have z2 := h2b.size
  clear h2 h2b
  go_wp2_with fail
  refine (shown6_any _).mono ?_
  rintro e w3 ⟨rfl, h3⟩
  go_wp2
  go_ret
  exact ⟨rfl, hb0.trans (h3.mono hb0.size)⟩

theorem box_is (p : Pnt) (t0 : List Pnt) : ∃ lx ly hx hy : Int, boxV (p :: t0) = .tuple #[P2 lx ly, P2 hx hy] ∧ (∀ c ∈ p :: t0, lx ≤ c.1 ∧ ly ≤ c.2 ∧ c.1 ≤ hx ∧ c.2 ≤ hy) ∧
    ((p :: t0).any (fun c => c.1 == lx) = true ∧ (p :: t0).any (fun c => c.1 == hx) = true ∧ (p :: t0).any (fun c => c.2 == ly) = true ∧ (p :: t0).any (fun c => c.2 == hy) = true) ∧
    ∀ q, hasV (p :: t0) q = true → lx ≤ q.1 ∧ q.1 ≤ hx ∧ ly ≤ q.2 ∧ q.2 ≤ hy := by
  obtain ⟨a, ⟨c1, m1, e1⟩, ⟨c2, m2, e2⟩, ⟨c3, m3, e3⟩, ⟨c4, m4, e4⟩⟩ := box_all p t0
  refine ⟨(box4 p (p :: t0)).1, (box4 p (p :: t0)).2.1, (box4 p (p :: t0)).2.2.1, (box4 p (p :: t0)).2.2.2, rfl, a, ⟨?_, ?_, ?_, ?_⟩, fun q hq => has_box hq⟩
  · exact List.any_eq_true.2 ⟨c1, m1, by simpa using e1⟩
  · exact List.any_eq_true.2 ⟨c3, m3, by simpa using e3⟩
  · exact List.any_eq_true.2 ⟨c2, m2, by simpa using e2⟩
  · exact List.any_eq_true.2 ⟨c4, m4, by simpa using e4⟩

def anyX (l : List Pnt) (k : Nat) (v : Int) : Bool := (l.take k).any fun c => c.1 == v
def anyY (l : List Pnt) (k : Nat) (v : Int) : Bool := (l.take k).any fun c => c.2 == v
theorem anyX_step {l : List Pnt} {k : Nat} {x y : Int} (v : Int) (h : l[k]? = some (x, y)) : anyX l (k + 1) v = (anyX l k v || x == v) := any_take l _ k h
theorem anyY_step {l : List Pnt} {k : Nat} {x y : Int} (v : Int) (h : l[k]? = some (x, y)) : anyY l (k + 1) v = (anyY l k v || y == v) := any_take l _ k h

theorem box_main (A : Option Addr) (cap : Nat) (l : List Pnt) (s t : Int) (w : World) (hr : Cor w w.heap.size A l) (hl : l.length ≤ 9223372036854775807) (hb : boundedV l = true) (hq : boundedV [(s, t)] = true) (h0 : l.length ≠ 0) :
    Calls Try.prog 8 #[.slice A l.length cap, P2 s t] w fun e w' => e = .returned (.bool true) ∧ Below w.heap.size w w' := by
  obtain ⟨p, t0, hl0⟩ : ∃ p t0, l = p :: t0 := by rcases l with _ | ⟨p, t0⟩ <;> simp at h0 ⊢
  obtain ⟨lx, ly, hx, hy, hbox, hin, hany, hhas⟩ := box_is p t0
  rw [← hl0] at hbox hin hany hhas
  clear hl0 p t0
  have hb16 : l.length ≤ 16 ∧ allNear l = true := by unfold boundedV at hb; simpa [and_comm] using hb
  have hqn : nearB s t = true := by unfold boundedV allNear at hq; simpa using hq
  obtain ⟨nq1, nq2⟩ := nearB_iff.1 hqn
  have BOX0 := fun w hr => pbox_any A cap l w hr hb16.1 hb16.2
  have HAS0 := fun w hr => phas_any A cap l s t w hr hb16.1 hb16.2 nq1 nq2
  rw [hbox] at BOX0
  obtain ⟨bh, hbh⟩ : ∃ v, hasV l (s, t) = v := ⟨_, rfl⟩
  simp only [hbh] at HAS0
  have HIN := Lib.hid hin
  have HANY := Lib.hid hany
  have HHAS := Lib.hid (show bh = true → lx ≤ s ∧ s ≤ hx ∧ ly ≤ t ∧ t ≤ hy from fun g => hhas (s, t) (hbh.trans g))
  have HN16 := Lib.hid hb16.1
  clear hbox hin hany hhas hb16 hqn nq1 nq2 hbh
  have HQ := Lib.hid hq
  clear hq
  have HR := Lib.hid hr
  clear hr
  obtain ⟨n, hn⟩ : ∃ n, l.length = n := ⟨_, rfl⟩
  rw [hn] at hl ⊢
  have HN := Lib.hid hn
  have BOX := Lib.hid (fun w hr => (hn ▸ BOX0 w hr : Calls Try.prog 11 #[.slice A n cap] w _))
  have HAS := Lib.hid (fun w hr => (hn ▸ HAS0 w hr : Calls Try.prog 17 #[.slice A n cap, P2 s t] w _))
  have hn16 : n ≤ 16 := by rw [← hn]; exact HN16.out
  have hn0 : 0 < n := by rw [← hn]; omega
  clear BOX0 HAS0 h0 HN16
  have q1 : ((n : Int) == 0) = false := by simp; omega
  have BND := Lib.hid (fun w hr => (hn ▸ bounded_any A cap l w hr (hn.symm ▸ hl) : Calls Try.prog 9 #[.slice A n cap] w _))
  have HB := Lib.hid hb
  clear hb hn
  go_enter Try.func8, Try.ntmps8
  go_wp2_with fail
  refine (BND.out _ (HR.out.step ((Below.refl _ _).alloc (Nat.le_refl _) _) |>.more (by simp))).mono ?_
  rintro e w1 ⟨rfl, h1⟩
  rw [HB.out]
  have z1 := h1.size
  simp at z1
  obtain ⟨c1, c2, hb0⟩ : w1.cell? ⟨w.heap.size, 0, none⟩ = some (.int .i64 s) ∧ w1.cell? ⟨w.heap.size, 1, none⟩ = some (.int .i64 t) ∧ Below w.heap.size w w1 := ⟨(h1.cell (p := ⟨w.heap.size, 0, none⟩) (by simp)).trans (by simp), (h1.cell (p := ⟨w.heap.size, 1, none⟩) (by simp)).trans (by simp), (show Below w.heap.size w _ from (by repeat (first | exact Below.refl _ _ | assumption | refine below_dN ?_ _ | refine Below.setCell ?_ (by first | (simp; done) | (simp; omega) | omega) _ | refine Below.alloc ?_ (by first | (simp; done) | (simp; omega) | omega) _))).trans (h1.mono (by simp))⟩
  clear h1
  go_wp2_with fail
  refine (bounded_any (some ⟨w1.heap.size, 0, none⟩) 1 [(s, t)] _ (cor_lit' _ _ _ _ [(s, t)] _ rfl rfl (by simp)) (by simp)).mono ?_
  rintro e w2 ⟨rfl, h2⟩
  rw [HQ.out]
  have h2b := (show Below w1.heap.size w1 _ from (Below.refl _ _).alloc (Nat.le_refl _) _).trans (h2.mono (by simp))
  replace c1 := (h2b.cell (by dsimp only; omega)).trans c1
  replace c2 := (h2b.cell (by dsimp only; omega)).trans c2
  replace hb0 := hb0.trans (h2b.mono (by omega))
  have z2 := h2b.size
  clear h2 h2b
  go_wp2_with fail
  refine (shown6_any _).mono ?_
  rintro e w3 ⟨rfl, h3⟩
  replace c1 := (h3.cell (by dsimp only; omega)).trans c1
  replace c2 := (h3.cell (by dsimp only; omega)).trans c2
  replace hb0 := hb0.trans (h3.mono (by omega))
  have z3 := h3.size
  clear h3
  go_wp2_with fail
  refine (BOX.out _ (HR.out.calls hb0)).mono ?_
  rintro e w4 ⟨rfl, h3⟩
  replace c1 := (h3.cell (by dsimp only; omega)).trans c1
  replace c2 := (h3.cell (by dsimp only; omega)).trans c2
  replace hb0 := hb0.trans (h3.mono (by omega))
  have z4 := h3.size
  clear h3
  go_upto_region 4 with fail
  refine any_gen (fun z => z.cell? ⟨w.heap.size, 0, none⟩ = some (.int .i64 s) ∧ z.cell? ⟨w.heap.size, 1, none⟩ = some (.int .i64 t) ∧ z.cell? ⟨w4.heap.size, 0, none⟩ = some (.int .i64 lx) ∧ z.cell? ⟨w4.heap.size, 1, none⟩ = some (.int .i64 ly) ∧ z.cell? ⟨w4.heap.size + 1, 0, none⟩ = some (.int .i64 hx) ∧ z.cell? ⟨w4.heap.size + 1, 1, none⟩ = some (.int .i64 hy) ∧ w4.heap.size + 1 + 1 ≤ z.heap.size ∧ Below w.heap.size w z) ⟨(World.cell?_alloc_old _ _ _ (by simp; omega)).trans ((World.cell?_alloc_old _ _ _ (by dsimp only; omega)).trans c1), (World.cell?_alloc_old _ _ _ (by simp; omega)).trans ((World.cell?_alloc_old _ _ _ (by dsimp only; omega)).trans c2), by simp [go_sem], by simp [go_sem], by simp [go_sem], by simp [go_sem], by simp, (hb0.alloc (by omega) _).alloc (by simp; omega) _⟩ ?_
  clear c1 c2 hb0
  rintro w5 ⟨c1, c2, c3, c4, c5, c6, hs5, hb0⟩
  obtain ⟨G, hG⟩ : ∃ G, w4.heap.size = G := ⟨_, rfl⟩
  rw [hG] at c3 c4 c5 c6 hs5 z4
  simp only [hG]
  clear hG
  go_wp2_with fail
  go_loopw [8] (fun s8 wr => ∃ (k : Nat) (r0 r1 r2 r3 : Bool), s8 = .int .i64 k ∧ k ≤ n ∧ (r0 = anyX l k lx ∧ r1 = anyX l k hx ∧ r2 = anyY l k ly ∧ r3 = anyY l k hy) ∧ RB w5.heap.size r0 r1 r2 r3 w5 wr) (fun s8 _ => n - (intOf s8).toNat)
  case atStart => exact ⟨0, false, false, false, false, rfl, Nat.zero_le _, ⟨rfl, rfl, rfl, rfl⟩, ⟨by simp [go_sem], by simp [go_sem], by simp [go_sem], by simp [go_sem], fun i => by simp [go_sem], (Below.refl _ _).alloc (Nat.le_refl _) _⟩⟩
  case round =>
    obtain ⟨k, r0, r1, r2, r3, rfl, hk, hrr, hR⟩ := hrel
    have HRR := Lib.hid hrr
    clear hrr
    by_cases hlt : k < n
    · obtain ⟨⟨x, y⟩, hp⟩ : ∃ p, l[k]? = some p := ⟨_, List.getElem?_eq_getElem (by rw [HN.out]; exact hlt)⟩
      obtain ⟨ad, rfl, hB, e1, e2⟩ := (HR.out.step hb0).at_ hp
      dsimp only at e1 e2
      have hin := HIN.out _ (List.mem_of_getElem? hp)
      dsimp only at hin
      obtain ⟨i1, i2, i3, i4⟩ := hin
      have HP := Lib.hid hp
      clear hp
      have q2 : (0 : Int) ≤ (k : Int) := by omega
      have q3 : (k : Int) < (n : Int) := by omega
      have q4 : IntKind.i64.wrap ((k : Int) + 1) = (k : Int) + 1 := IntWalk.i64_in _ (by omega)
      have q5 : decide ((k : Int) < (n : Int)) = true := by simp; omega
      have g1 : decide (x < lx) = false := by simp; omega
      have g2 : decide (hx < x) = false := by simp; omega
      have g3 : decide (y < ly) = false := by simp; omega
      have g4 : decide (hy < y) = false := by simp; omega
      have g5 : decide (x > hx) = false := by simp; omega
      have g6 : decide (y > hy) = false := by simp; omega
      have hk1 : (ad.add (k * 2)).block < w.heap.size := by rw [block_add]; exact hB
      have hz := hb0.size
      have d3 := (hR.bel.cell (by dsimp only; omega)).trans c3
      have d4 := (hR.bel.cell (by dsimp only; omega)).trans c4
      have d5 := (hR.bel.cell (by dsimp only; omega)).trans c5
      have d6 := (hR.bel.cell (by dsimp only; omega)).trans c6
      have f1 := (hR.bel.cell (by (try dsimp only); omega)).trans e1
      have f2 := (hR.bel.cell (by (try dsimp only); omega)).trans e2
      go_upto_region 8 with fail
      go_quiet (fail)
      go_upto_region 10 with fail
      clear d3 d4 d5 d6 f1 f2
      refine any_gen (fun z => RB w5.heap.size r0 r1 r2 r3 w5 z) (hR.drewN _) ?_
      clear hR
      rintro v0 R0
      obtain ⟨b0, hb1⟩ : ∃ v, (r0 || (x == lx)) = v := ⟨_, rfl⟩
      have B0 := Lib.hid hb1
      clear hb1
      have d3 := (R0.bel.cell (by dsimp only; omega)).trans c3
      have d4 := (R0.bel.cell (by dsimp only; omega)).trans c4
      have d5 := (R0.bel.cell (by dsimp only; omega)).trans c5
      have d6 := (R0.bel.cell (by dsimp only; omega)).trans c6
      have f1 := (R0.bel.cell (by (try dsimp only); omega)).trans e1
      have f2 := (R0.bel.cell (by (try dsimp only); omega)).trans e2
      have r := R0.c0
      have fr := R0.fz 0
      go_cut [8] (fun s8 wx => s8 = .int .i64 (k : Int) ∧ RB w5.heap.size b0 r1 r2 r3 w5 wx)
      case first =>
        cases r0
        · have h0 : (x == lx) = b0 := B0.out
          go_region
          all_goals
            go_wp2_with fail
            go_meet
            exact ⟨rfl, (R0.drewN _).put0 _ (Nat.le_refl _)⟩
        · obtain rfl : true = b0 := B0.out
          go_region
          all_goals
            go_wp2_with fail
            go_meet
            exact ⟨rfl, (R0.drewN _).put0 _ (Nat.le_refl _)⟩
      case rest =>
        clear d3 d4 d5 d6 f1 f2 r fr R0
        obtain ⟨rfl, R1⟩ := hcut
        go_upto_region 11 with fail
        obtain ⟨b1, hb2⟩ : ∃ v, (r1 || (x == hx)) = v := ⟨_, rfl⟩
        have B1 := Lib.hid hb2
        clear hb2
        have d3 := (R1.bel.cell (by dsimp only; omega)).trans c3
        have d4 := (R1.bel.cell (by dsimp only; omega)).trans c4
        have d5 := (R1.bel.cell (by dsimp only; omega)).trans c5
        have d6 := (R1.bel.cell (by dsimp only; omega)).trans c6
        have f1 := (R1.bel.cell (by (try dsimp only); omega)).trans e1
        have f2 := (R1.bel.cell (by (try dsimp only); omega)).trans e2
        have r := R1.c1
        have fr := R1.fz 1
        go_cut [8] (fun s8 wx => s8 = .int .i64 (k : Int) ∧ RB w5.heap.size b0 b1 r2 r3 w5 wx)
        case first =>
          cases r1
          · have h0 : (x == hx) = b1 := B1.out
            go_region
            all_goals
              go_wp2_with fail
              go_meet
              exact ⟨rfl, (R1.drewN _).put1 _ (Nat.le_refl _)⟩
          · obtain rfl : true = b1 := B1.out
            go_region
            all_goals
              go_wp2_with fail
              go_meet
              exact ⟨rfl, (R1.drewN _).put1 _ (Nat.le_refl _)⟩
        case rest =>
          clear d3 d4 d5 d6 f1 f2 r fr R1
          obtain ⟨rfl, R2⟩ := hcut
          go_upto_region 12 with fail
          obtain ⟨b2, hb3⟩ : ∃ v, (r2 || (y == ly)) = v := ⟨_, rfl⟩
          have B2 := Lib.hid hb3
          clear hb3
          have d3 := (R2.bel.cell (by dsimp only; omega)).trans c3
          have d4 := (R2.bel.cell (by dsimp only; omega)).trans c4
          have d5 := (R2.bel.cell (by dsimp only; omega)).trans c5
          have d6 := (R2.bel.cell (by dsimp only; omega)).trans c6
          have f1 := (R2.bel.cell (by (try dsimp only); omega)).trans e1
          have f2 := (R2.bel.cell (by (try dsimp only); omega)).trans e2
          have r := R2.c2
          have fr := R2.fz 2
          go_cut [8] (fun s8 wx => s8 = .int .i64 (k : Int) ∧ RB w5.heap.size b0 b1 b2 r3 w5 wx)
          case first =>
            cases r2
            · have h0 : (y == ly) = b2 := B2.out
              go_region
              all_goals
                go_wp2_with fail
                go_meet
                exact ⟨rfl, (R2.drewN _).put2 _ (Nat.le_refl _)⟩
            · obtain rfl : true = b2 := B2.out
              go_region
              all_goals
                go_wp2_with fail
                go_meet
                exact ⟨rfl, (R2.drewN _).put2 _ (Nat.le_refl _)⟩
          case rest =>
            clear d3 d4 d5 d6 f1 f2 r fr R2
            obtain ⟨rfl, R3⟩ := hcut
            go_upto_region 13 with fail
            obtain ⟨b3, hb4⟩ : ∃ v, (r3 || (y == hy)) = v := ⟨_, rfl⟩
            have B3 := Lib.hid hb4
            clear hb4
            have d3 := (R3.bel.cell (by dsimp only; omega)).trans c3
            have d4 := (R3.bel.cell (by dsimp only; omega)).trans c4
            have d5 := (R3.bel.cell (by dsimp only; omega)).trans c5
            have d6 := (R3.bel.cell (by dsimp only; omega)).trans c6
            have f1 := (R3.bel.cell (by (try dsimp only); omega)).trans e1
            have f2 := (R3.bel.cell (by (try dsimp only); omega)).trans e2
            have r := R3.c3
            have fr := R3.fz 3
            have STEP : b0 = anyX l (k + 1) lx ∧ b1 = anyX l (k + 1) hx ∧ b2 = anyY l (k + 1) ly ∧ b3 = anyY l (k + 1) hy := by
              obtain ⟨w0, w1, w2, w3⟩ := HRR.out
              rw [anyX_step lx HP.out, anyX_step hx HP.out, anyY_step ly HP.out, anyY_step hy HP.out, ← w0, ← w1, ← w2, ← w3]
              exact ⟨B0.out.symm, B1.out.symm, B2.out.symm, B3.out.symm⟩
            have HST := Lib.hid STEP
            clear STEP
            cases r3
            · have h0 : (y == hy) = b3 := B3.out
              go_region
              all_goals
                have R4 := fun m => (R3.drewN m).put3 b3 (Nat.le_refl _)
                go_wp2
                go_roundw
                case rel => exact ⟨k + 1, b0, b1, b2, b3, by go_num, by omega, HST.out, R4 _⟩
                case measure => simp [intOf]; omega
            · obtain rfl : true = b3 := B3.out
              go_region
              all_goals
                have R4 := fun m => (R3.drewN m).put3 true (Nat.le_refl _)
                go_wp2
                go_roundw
                case rel => exact ⟨k + 1, b0, b1, b2, true, by go_num, by omega, HST.out, R4 _⟩
                case measure => simp [intOf]; omega
    · obtain rfl : k = n := by omega
      have q5 : decide ((k : Int) < (k : Int)) = false := by simp
      have EQA := fun w => eq_arr w
      obtain ⟨rfl, rfl, rfl, rfl⟩ : r0 = true ∧ r1 = true ∧ r2 = true ∧ r3 = true := by
        have ht : l.take k = l := by rw [← HN.out, List.take_length]
        obtain ⟨w0, w1, w2, w3⟩ := HRR.out
        unfold anyX at w0 w1
        unfold anyY at w2 w3
        rw [ht] at w0 w1 w2 w3
        exact ⟨w0.trans HANY.out.1, w1.trans HANY.out.2.1, w2.trans HANY.out.2.2.1, w3.trans HANY.out.2.2.2⟩
      have rb := hR.bel
      have t0 := hR.c0
      have t1 := hR.c1
      have t2 := hR.c2
      have t3 := hR.c3
      have d1 := (hR.bel.cell (by dsimp only; omega)).trans c1
      have d2 := (hR.bel.cell (by dsimp only; omega)).trans c2
      have d3 := (hR.bel.cell (by dsimp only; omega)).trans c3
      have d4 := (hR.bel.cell (by dsimp only; omega)).trans c4
      have d5 := (hR.bel.cell (by dsimp only; omega)).trans c5
      have d6 := (hR.bel.cell (by dsimp only; omega)).trans c6
      have hbr := hb0.trans (hR.bel.mono (by omega))
      clear hR c1 c2 c3 c4 c5 c6 HRR
      by_cases g0 : lx ≤ s
      · by_cases g1 : s ≤ hx
        · by_cases g2 : ly ≤ t
          · by_cases g3 : t ≤ hy
            · have p00 : decide (lx ≤ s) = true := by simp; omega
              have p01 : decide (s ≥ lx) = true := by simp; omega
              have p10 : decide (s ≤ hx) = true := by simp; omega
              have p11 : decide (hx ≥ s) = true := by simp; omega
              have p20 : decide (ly ≤ t) = true := by simp; omega
              have p21 : decide (t ≥ ly) = true := by simp; omega
              have p30 : decide (t ≤ hy) = true := by simp; omega
              have p31 : decide (hy ≥ t) = true := by simp; omega
              go_wp2
              go_ret
              exact ⟨rfl, hbr⟩
            · have p00 : decide (lx ≤ s) = true := by simp; omega
              have p01 : decide (s ≥ lx) = true := by simp; omega
              have p10 : decide (s ≤ hx) = true := by simp; omega
              have p11 : decide (hx ≥ s) = true := by simp; omega
              have p20 : decide (ly ≤ t) = true := by simp; omega
              have p21 : decide (t ≥ ly) = true := by simp; omega
              have p30 : decide (t ≤ hy) = false := by simp; omega
              have p31 : decide (hy ≥ t) = false := by simp; omega
              have hb : bh = false := by
                cases bh
                · rfl
                · exact absurd (HHAS.out rfl) (by omega)
              subst hb
              go_wp2_with fail
              refine (HAS.out _ (HR.out.calls hbr)).mono ?_
              rintro e w7 ⟨rfl, h7⟩
              go_wp2
              go_ret
              exact ⟨rfl, hbr.trans (h7.mono hbr.size)⟩
          · have p00 : decide (lx ≤ s) = true := by simp; omega
            have p01 : decide (s ≥ lx) = true := by simp; omega
            have p10 : decide (s ≤ hx) = true := by simp; omega
            have p11 : decide (hx ≥ s) = true := by simp; omega
            have p20 : decide (ly ≤ t) = false := by simp; omega
            have p21 : decide (t ≥ ly) = false := by simp; omega
            have hb : bh = false := by
              cases bh
              · rfl
              · exact absurd (HHAS.out rfl) (by omega)
            subst hb
            go_wp2_with fail
            refine (HAS.out _ (HR.out.calls hbr)).mono ?_
            rintro e w7 ⟨rfl, h7⟩
            go_wp2
            go_ret
            exact ⟨rfl, hbr.trans (h7.mono hbr.size)⟩
        · have p00 : decide (lx ≤ s) = true := by simp; omega
          have p01 : decide (s ≥ lx) = true := by simp; omega
          have p10 : decide (s ≤ hx) = false := by simp; omega
          have p11 : decide (hx ≥ s) = false := by simp; omega
          have hb : bh = false := by
            cases bh
            · rfl
            · exact absurd (HHAS.out rfl) (by omega)
          subst hb
          go_wp2_with fail
          refine (HAS.out _ (HR.out.calls hbr)).mono ?_
          rintro e w7 ⟨rfl, h7⟩
          go_wp2
          go_ret
          exact ⟨rfl, hbr.trans (h7.mono hbr.size)⟩
      · have p00 : decide (lx ≤ s) = false := by simp; omega
        have p01 : decide (s ≥ lx) = false := by simp; omega
        have hb : bh = false := by
          cases bh
          · rfl
          · exact absurd (HHAS.out rfl) (by omega)
        subst hb
        go_wp2_with fail
        refine (HAS.out _ (HR.out.calls hbr)).mono ?_
        rintro e w7 ⟨rfl, h7⟩
        go_wp2
        go_ret
        exact ⟨rfl, hbr.trans (h7.mono hbr.size)⟩

theorem walk_PieceBox (A : Option Addr) (cap : Nat) (l : List Pnt) (s t : Int) (w : World) (hr : Cor w w.heap.size A l) (hl : l.length ≤ 9223372036854775807) :
    Calls Try.prog 8 #[.slice A l.length cap, P2 s t] w fun e w' => e = .returned (.bool true) ∧ Below w.heap.size w w' := by
  cases hb : boundedV l
  · exact box_far A cap l s t w hr hl hb
  · cases hq : boundedV [(s, t)]
    · exact box_far2 A cap l s t w hr hl hb hq
    · by_cases h0 : l.length = 0
      · exact box_none A cap l s t w hr hl hb hq h0
      · exact box_main A cap l s t w hr hl hb hq h0
end Go.Proofs.Ytlgfnhapjhoelaa
