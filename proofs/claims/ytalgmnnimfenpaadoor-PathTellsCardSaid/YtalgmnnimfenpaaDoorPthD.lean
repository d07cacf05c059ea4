/- Segments: whether they are a dot, and where they end: the program's own answers. -/
import Derived.Test.YtalgmnnimfenpaaDoorPthT
namespace Go.Proofs.YtalgmnnimfenpaaDoor
open Go.RowKit
set_option linter.unusedVariables false
set_option linter.unusedSimpArgs false
set_option maxHeartbeats 4000000
set_option maxRecDepth 100000

theorem q7end_core (a b c d e f g h n x y : Int) (k : Nat) (w : World) (hk : cnt7 n = k + 1) (hp : ([(a, b), (c, d), (e, f), (g, h)] : List Pnt)[k]? = some (x, y)) :
    Calls Tryd.prog 23 #[G9 a b c d e f g h n] w fun z w' => z = .returned (P2 x y) ∧ Below w.heap.size w w' := by
  have hk4 : k < 4 := by have := cnt7_is n; omega
  have CT0 := fun W => q7count_any a b c d e f g h n W
  simp only [hk] at CT0
  have CT := Lib.hid CT0
  have HP := Lib.hid hp
  have q1 : IntKind.i64.wrap (((k + 1 : Nat) : Int) - 1) = (k : Int) := by rw [IntWalk.i64_in _ (by omega)]; omega
  have q2 : (0 : Int) ≤ (k : Int) := by omega
  have q3 : (k : Int) < 4 := by omega
  clear CT0 hk hp
  go_enter Tryd.func23, Tryd.ntmps23
  go_upto_region 1 with fail
  refine any_gen (fun z => ((z.cell? ⟨w.heap.size, 0, none⟩ = some (.int .i64 a) ∧ z.cell? ⟨w.heap.size, 1, none⟩ = some (.int .i64 b) ∧ z.cell? ⟨w.heap.size, 2, none⟩ = some (.int .i64 c) ∧ z.cell? ⟨w.heap.size, 3, none⟩ = some (.int .i64 d) ∧ z.cell? ⟨w.heap.size, 4, none⟩ = some (.int .i64 e) ∧ z.cell? ⟨w.heap.size, 5, none⟩ = some (.int .i64 f) ∧ z.cell? ⟨w.heap.size, 6, none⟩ = some (.int .i64 g) ∧ z.cell? ⟨w.heap.size, 7, none⟩ = some (.int .i64 h) ∧ z.cell? ⟨w.heap.size, 8, none⟩ = some (.int .i64 n)) ∧ (z.cell? ⟨w.heap.size + 1, 0, none⟩ = some (.int .i64 0) ∧ z.cell? ⟨w.heap.size + 1, 1, none⟩ = some (.int .i64 0) ∧ z.frozen? ⟨w.heap.size + 1, 0, none⟩ = false ∧ z.frozen? ⟨w.heap.size + 1, 1, none⟩ = false)) ∧ w.heap.size + 2 ≤ z.heap.size ∧ Below w.heap.size w z) ⟨⟨⟨by simp [go_sem], by simp [go_sem], by simp [go_sem], by simp [go_sem], by simp [go_sem], by simp [go_sem], by simp [go_sem], by simp [go_sem], by simp [go_sem]⟩, by simp [go_sem], by simp [go_sem], by simp, by simp⟩, by simp, ((Below.refl _ _).alloc (Nat.le_refl _) _).alloc (by simp) _⟩ ?_
  rintro w1 ⟨⟨⟨k0, k1, k2, k3, k4, k5, k6, k7, k8⟩, r0, r1, f0, f1⟩, hs, hb0⟩
  go_wp2_with fail
  refine (CT.out _).mono ?_
  rintro z w2 ⟨rfl, h2⟩
  have lt0 : w.heap.size < w1.heap.size := by omega
  have lt1 : w.heap.size + 1 < w1.heap.size := by omega
  have R := Lib.hid (seg_cells k0 k1 k2 k3 k4 k5 k6 k7)
  obtain ⟨e1, e2⟩ := R.out k (x, y) HP.out
  have d1 := (h2.cell (by exact lt0)).trans e1
  have d2 := (h2.cell (by exact lt0)).trans e2
  have d3 := (h2.cell (by exact lt1)).trans r0
  have d4 := (h2.cell (by exact lt1)).trans r1
  have d5 := (h2.frozen (by exact lt1)).trans f0
  have d6 := (h2.frozen (by exact lt1)).trans f1
  have hb2 := hb0.trans (h2.mono (by omega))
  dsimp only at d1 d2
  clear e1 e2 k0 k1 k2 k3 k4 k5 k6 k7 k8 r0 r1 f0 f1 h2
  go_wp2
  refine bodyPost_ret (by simp [results, Tryd.results23, go_sem, *] <;> rfl) rfl ⟨rfl, ?_⟩
  exact (hb2.setCell (by simp) _).setCell (by simp) _

theorem q7end_any (a b c d e f g h n : Int) (w : World) :
    Calls Tryd.prog 23 #[G9 a b c d e f g h n] w fun z w' => z = .returned (P2 (endV (((a, b), (c, d), (e, f), (g, h)), n)).1 (endV (((a, b), (c, d), (e, f), (g, h)), n)).2) ∧ Below w.heap.size w w' := by
  rcases cnt7_is n with ⟨h1, h2⟩ | ⟨rfl, h2⟩ | ⟨h1, h2⟩
  · have F : endV (((a, b), (c, d), (e, f), (g, h)), n) = (c, d) := by unfold endV; rw [if_pos h1]
    rw [F]; exact q7end_core a b c d e f g h n c d 1 w h2 rfl
  · exact q7end_core a b c d e f g h 3 e f 2 w h2 rfl
  · have F : endV (((a, b), (c, d), (e, f), (g, h)), n) = (g, h) := by unfold endV; rw [if_neg (by dsimp only; omega), if_neg (by dsimp only; omega)]
    rw [F]; exact q7end_core a b c d e f g h n g h 3 w h2 rfl

theorem q7dot_any (a b c d e f g h n : Int) (w : World) :
    Calls Tryd.prog 21 #[G9 a b c d e f g h n] w fun z w' => z = .returned (.bool (dotV (((a, b), (c, d), (e, f), (g, h)), n))) ∧ Below w.heap.size w w' := by
  obtain ⟨M, hm⟩ : ∃ M, cnt7 n = M := ⟨_, rfl⟩
  have hM := cnt7_is n
  have CT0 := fun W => q7count_any a b c d e f g h n W
  simp only [hm] at CT0 hM
  have CT := Lib.hid CT0
  obtain ⟨D, hD⟩ : ∃ D, dotV (((a, b), (c, d), (e, f), (g, h)), n) = D := ⟨_, rfl⟩
  rw [hD]
  have HD0 := (dot_all a b c d e f g h n M hM).trans hD
  obtain ⟨q, hq⟩ : ∃ q, (([(a, b), (c, d), (e, f), (g, h)] : List Pnt).take M) = q := ⟨_, rfl⟩
  rw [hq] at HD0
  have hM4 : M ≤ 4 ∧ 0 < M := by omega
  have hql : q.length = M := by rw [← hq, List.length_take]; simp; omega
  have HQL := Lib.hid hql
  have HD := Lib.hid HD0
  have HSUB := Lib.hid (fun (i : Nat) (p : Pnt) (hp : q[i]? = some p) => (show ([(a, b), (c, d), (e, f), (g, h)] : List Pnt)[i]? = some p by
    rw [← hq, List.getElem?_take] at hp
    split at hp
    · exact hp
    · cases hp))
  have hal : Tryd.prog.arrayLen 49 = 4 := by kernel_rfl
  have hsl0 : ∀ W, (Instr.sliceAt 49 (.pointer (some ⟨w.heap.size, 0, none⟩)) none (some (.int .i64 (M : Int))) none).run Tryd.prog W = .ok (.slice (some ⟨w.heap.size, 0, none⟩) M 4) W := fun W => by
    rw [run_sliceAt_array_h W 49 ⟨w.heap.size, 0, none⟩ (by kernel_rfl) .i64 (M : Int) (by omega) (by rw [hal]; omega)]
    go_simp
  clear hD HD0 hq hql hM CT0 hm hal
  go_enter Tryd.func21, Tryd.ntmps21
  go_upto_region 1 with fail
  refine any_gen (fun z => ((z.cell? ⟨w.heap.size, 0, none⟩ = some (.int .i64 a) ∧ z.cell? ⟨w.heap.size, 1, none⟩ = some (.int .i64 b) ∧ z.cell? ⟨w.heap.size, 2, none⟩ = some (.int .i64 c) ∧ z.cell? ⟨w.heap.size, 3, none⟩ = some (.int .i64 d) ∧ z.cell? ⟨w.heap.size, 4, none⟩ = some (.int .i64 e) ∧ z.cell? ⟨w.heap.size, 5, none⟩ = some (.int .i64 f) ∧ z.cell? ⟨w.heap.size, 6, none⟩ = some (.int .i64 g) ∧ z.cell? ⟨w.heap.size, 7, none⟩ = some (.int .i64 h) ∧ z.cell? ⟨w.heap.size, 8, none⟩ = some (.int .i64 n))) ∧ w.heap.size + 1 ≤ z.heap.size ∧ Below w.heap.size w z) ⟨⟨by simp [go_sem], by simp [go_sem], by simp [go_sem], by simp [go_sem], by simp [go_sem], by simp [go_sem], by simp [go_sem], by simp [go_sem], by simp [go_sem]⟩, by simp, (Below.refl _ _).alloc (Nat.le_refl _) _⟩ ?_
  rintro w1 ⟨⟨k0, k1, k2, k3, k4, k5, k6, k7, k8⟩, hs, hb0⟩
  go_wp2_with fail
  refine (CT.out _).mono ?_
  rintro z w2 ⟨rfl, h2⟩
  have R0 := seg_cells k0 k1 k2 k3 k4 k5 k6 k7
  have R := Lib.hid (fun (i : Nat) (p : Pnt) (hp : ([(a, b), (c, d), (e, f), (g, h)] : List Pnt)[i]? = some p) => (show w2.cell? ⟨w.heap.size, i * 2, none⟩ = some (.int .i64 p.1) ∧ w2.cell? ⟨w.heap.size, i * 2 + 1, none⟩ = some (.int .i64 p.2) from
    ⟨(h2.cell (p := ⟨w.heap.size, i * 2, none⟩) (by dsimp only; omega)).trans (R0 i p hp).1, (h2.cell (p := ⟨w.heap.size, i * 2 + 1, none⟩) (by dsimp only; omega)).trans (R0 i p hp).2⟩))
  have hb2 := hb0.trans (h2.mono (by omega))
  have hs2 := Nat.le_trans hs h2.size
  clear k0 k1 k2 k3 k4 k5 k6 k7 k8 h2 R0
  go_wp2_with fail
  go_loopw [10] (fun s10 wr => ∃ i : Nat, s10 = .int .i64 i ∧ i ≤ M ∧ (q.drop i).all (fun p => decide (p = (a, b))) = D ∧ Below w2.heap.size w2 wr) (fun s10 _ => M - (intOf s10).toNat)
  case atStart => exact ⟨0, rfl, Nat.zero_le _, HD.out, Below.refl _ _⟩
  case round =>
    obtain ⟨i, rfl, hi, hd, hbr⟩ := hrel
    have HDI := Lib.hid hd
    clear hd
    by_cases hlt : i < M
    · obtain ⟨⟨x, y⟩, hp⟩ : ∃ p, q[i]? = some p := ⟨_, List.getElem?_eq_getElem (by rw [HQL.out]; exact hlt)⟩
      obtain ⟨e1, e2⟩ := R.out i (x, y) (HSUB.out i _ hp)
      obtain ⟨e3, e4⟩ := R.out 0 (a, b) rfl
      have lt1 : w.heap.size < w2.heap.size := by omega
      have d1 := (hbr.cell (by exact lt1)).trans e1
      have d2 := (hbr.cell (by exact lt1)).trans e2
      have d3 := (hbr.cell (by exact lt1)).trans e3
      have d4 := (hbr.cell (by exact lt1)).trans e4
      dsimp only at d1 d2 d3 d4
      simp only [Nat.zero_mul, Nat.zero_add] at d3 d4
      have lt2 : w.heap.size < wr.heap.size := Nat.lt_of_lt_of_le lt1 hbr.size
      obtain ⟨bb, hbb⟩ : ∃ bb, decide ((x, y) = (a, b)) = bb := ⟨_, rfl⟩
      have NE := fun w => ne_pt7 x y a b bb hbb w
      have HN := Lib.hid (show (bb && (q.drop (i + 1)).all (fun p => decide (p = (a, b)))) = D by
        have e := List.drop_eq_getElem_cons (l := q) (i := i) (by rw [HQL.out]; exact hlt)
        rw [← HDI.out, e, List.all_cons, (List.getElem?_eq_some_iff.1 hp).2, hbb])
      have p1 : decide ((i : Int) < (M : Int)) = true := by simp; omega
      have p2 : (0 : Int) ≤ (i : Int) := by omega
      have p3 : (i : Int) < (M : Int) := by omega
      have p4 : IntKind.i64.wrap ((i : Int) + 1) = (i : Int) + 1 := IntWalk.i64_in _ (by omega)
      clear hp hbb e1 e2 e3 e4
      cases bb
      · have F := Lib.hid (show false = D from HN.out)
        go_wp2
        go_ret
        exact ⟨by rw [← F.out]; rfl, hb2.trans ((hbr.alloc hbr.size _).mono (by omega))⟩
      · have F := Lib.hid (show (q.drop (i + 1)).all (fun p => decide (p = (a, b))) = D from HN.out)
        go_wp2
        go_roundw
        case rel => exact ⟨i + 1, by go_num, by omega, F.out, hbr.alloc hbr.size _⟩
        case measure => simp [intOf]; omega
    · have F := Lib.hid (show true = D by
        rw [← HDI.out, show i = M by omega, ← HQL.out, List.drop_length]; rfl)
      have p1 : decide ((i : Int) < (M : Int)) = false := by simp; omega
      go_wp2
      go_ret
      exact ⟨by rw [← F.out]; rfl, hb2.trans (hbr.mono (by omega))⟩
end Go.Proofs.YtalgmnnimfenpaaDoor
