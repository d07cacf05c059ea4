/- Segments: whether they are a dot, and where they end: the document's own answers. -/
import Derived.Test.YtalgmnnimfenpaaDoorRef7
namespace Go.Proofs.YtalgmnnimfenpaaDoor
open Go.RowKit
set_option linter.unusedVariables false
set_option linter.unusedSimpArgs false
set_option maxHeartbeats 4000000
set_option maxRecDepth 100000

/-- A segment as the program's struct: four points, and how many count. -/
def segC (g : SegV) : List Value := [.int .i64 g.1.1.1, .int .i64 g.1.1.2, .int .i64 g.1.2.1.1, .int .i64 g.1.2.1.2, .int .i64 g.1.2.2.1.1, .int .i64 g.1.2.2.1.2, .int .i64 g.1.2.2.2.1, .int .i64 g.1.2.2.2.2, .int .i64 g.2]
abbrev G9 (a b c d e f g h n : Int) : Value := .agg #[.int .i64 a, .int .i64 b, .int .i64 c, .int .i64 d, .int .i64 e, .int .i64 f, .int .i64 g, .int .i64 h, .int .i64 n]
/-- All its points (2 to 4) are the same. -/
def dotV (g : SegV) : Bool := decide (g.1.2.1 = g.1.1) && (decide (g.2 ≤ 2) || (decide (g.1.2.2.1 = g.1.1) && (decide (g.2 ≤ 3) || decide (g.1.2.2.2 = g.1.1))))
theorem ne_pt7 (x y u v : Int) (b : Bool) (h : decide ((x, y) = (u, v)) = b) (w : World) :
    (binOp .neq 44 (P2 x y) (P2 u v)).run Tryd.prog w = .ok (.bool (!b)) w := by
  have h2 : (x == u && y == v) = b := by
    rw [← h]
    by_cases hx : x = u <;> by_cases hy : y = v <;> simp [hx, hy]
  subst h2
  cases hx : (x == u) <;> cases hy : (y == v) <;> simp [go_sem, hx, hy]

theorem r7end_any (a b c d e f g h n : Int) (w : World) :
    Calls Tryd.prog 24 #[G9 a b c d e f g h n] w fun z w' => z = .returned (P2 (endV (((a, b), (c, d), (e, f), (g, h)), n)).1 (endV (((a, b), (c, d), (e, f), (g, h)), n)).2) ∧ Below w.heap.size w w' := by
  by_cases h2 : n ≤ 2
  · have F := Lib.hid (show endV (((a, b), (c, d), (e, f), (g, h)), n) = (c, d) by unfold endV; rw [if_pos h2])
    have m1 : max n 2 = 2 := by omega
    have m2 : (if n < 2 then 2 else n) = 2 := by split <;> omega
    have m3 : min 2 4 = (2 : Int) := by omega
    have m4 : (if 4 < 2 then 4 else 2) = (2 : Int) := by split <;> omega
    have m5 : (if 2 < 4 then 2 else 4) = (2 : Int) := by split <;> omega
    have m6 : (if 2 < n then n else 2) = 2 := by split <;> omega
    rw [F.out]
    go_enter Tryd.func24, Tryd.ntmps24
    go_wp2
    refine bodyPost_ret (by simp [results, Tryd.results24, go_sem] <;> rfl) rfl ⟨?_, ?_⟩
    · rfl
    · exact (by repeat (first | exact Below.refl _ _ | refine Below.setCell ?_ (by first | (simp; done) | (simp; omega)) _ | refine Below.alloc ?_ (by first | (simp; done) | (simp; omega)) _))
  · by_cases h3 : n = 3
    · subst h3
      have F := Lib.hid (show endV (((a, b), (c, d), (e, f), (g, h)), 3) = (e, f) by unfold endV; rw [if_neg (by omega), if_pos rfl])
      have m1 : max (3 : Int) 2 = 3 := by omega
      have _m2 : (if (3 : Int) < 2 then 2 else 3) = 3 := by split <;> omega
      have m3 : min 3 4 = (3 : Int) := by omega
      have m4 : (if 4 < 3 then 4 else 3) = (3 : Int) := by split <;> omega
      have m5 : (if 3 < 4 then 3 else 4) = (3 : Int) := by split <;> omega
      have _m6 : (if (2 : Int) < 3 then 3 else 2) = 3 := by split <;> omega
      rw [F.out]
      go_enter Tryd.func24, Tryd.ntmps24
      go_wp2
      refine bodyPost_ret (by simp [results, Tryd.results24, go_sem] <;> rfl) rfl ⟨?_, ?_⟩
      · rfl
      · exact (by repeat (first | exact Below.refl _ _ | refine Below.setCell ?_ (by first | (simp; done) | (simp; omega)) _ | refine Below.alloc ?_ (by first | (simp; done) | (simp; omega)) _))
    · have F := Lib.hid (show endV (((a, b), (c, d), (e, f), (g, h)), n) = (g, h) by unfold endV; rw [if_neg h2, if_neg h3])
      have m1 : max n 2 = n := by omega
      have m2 : (if n < 2 then 2 else n) = n := by split <;> omega
      have m3 : min n 4 = (4 : Int) := by omega
      have m4 : (if 4 < n then 4 else n) = (4 : Int) := by split <;> omega
      have m5 : (if n < 4 then n else 4) = (4 : Int) := by split <;> omega
      have m6 : (if 2 < n then n else 2) = n := by split <;> omega
      rw [F.out]
      go_enter Tryd.func24, Tryd.ntmps24
      go_wp2
      refine bodyPost_ret (by simp [results, Tryd.results24, go_sem] <;> rfl) rfl ⟨?_, ?_⟩
      · rfl
      · exact (by repeat (first | exact Below.refl _ _ | refine Below.setCell ?_ (by first | (simp; done) | (simp; omega)) _ | refine Below.alloc ?_ (by first | (simp; done) | (simp; omega)) _))

theorem dot_all (a b c d e f g h n : Int) (M : Nat) (hM : (n ≤ 2 ∧ M = 2) ∨ (n = 3 ∧ M = 3) ∨ (4 ≤ n ∧ M = 4)) : (([(a, b), (c, d), (e, f), (g, h)] : List Pnt).take M).all (fun p => decide (p = (a, b))) = dotV (((a, b), (c, d), (e, f), (g, h)), n) := by
  unfold dotV
  rcases hM with ⟨h1, rfl⟩ | ⟨rfl, rfl⟩ | ⟨h1, rfl⟩
  · simp [h1]
  · simp
  · simp [show ¬ n ≤ 2 by omega, show ¬ n ≤ 3 by omega]
theorem seg_cells {wr : World} {B : Nat} {a b c d e f g h : Int} (k0 : wr.cell? ⟨B, 0, none⟩ = some (.int .i64 a)) (k1 : wr.cell? ⟨B, 1, none⟩ = some (.int .i64 b)) (k2 : wr.cell? ⟨B, 2, none⟩ = some (.int .i64 c)) (k3 : wr.cell? ⟨B, 3, none⟩ = some (.int .i64 d))
    (k4 : wr.cell? ⟨B, 4, none⟩ = some (.int .i64 e)) (k5 : wr.cell? ⟨B, 5, none⟩ = some (.int .i64 f)) (k6 : wr.cell? ⟨B, 6, none⟩ = some (.int .i64 g)) (k7 : wr.cell? ⟨B, 7, none⟩ = some (.int .i64 h)) :
    ∀ (i : Nat) (p : Pnt), ([(a, b), (c, d), (e, f), (g, h)] : List Pnt)[i]? = some p → wr.cell? ⟨B, i * 2, none⟩ = some (.int .i64 p.1) ∧ wr.cell? ⟨B, i * 2 + 1, none⟩ = some (.int .i64 p.2) := by
  intro i p hp
  match i, hp with
  | 0, hp => cases hp; exact ⟨k0, k1⟩
  | 1, hp => cases hp; exact ⟨k2, k3⟩
  | 2, hp => cases hp; exact ⟨k4, k5⟩
  | 3, hp => cases hp; exact ⟨k6, k7⟩
  | k + 4, hp => simp at hp
theorem r7dot_core (a b c d e f g h n X : Int) (M : Nat) (w : World) (hM : (n ≤ 2 ∧ M = 2) ∨ (n = 3 ∧ M = 3) ∨ (4 ≤ n ∧ M = 4)) (m1 : max n 2 = X) (m2 : (if n < 2 then 2 else n) = X) (m6 : (if 2 < n then n else 2) = X) (m3 : min X 4 = (M : Int)) (m4 : (if 4 < X then 4 else X) = (M : Int)) (m5 : (if X < 4 then X else 4) = (M : Int)) :
    Calls Tryd.prog 22 #[G9 a b c d e f g h n] w fun z w' => z = .returned (.bool (dotV (((a, b), (c, d), (e, f), (g, h)), n))) ∧ Below w.heap.size w w' := by
  obtain ⟨D, hD⟩ : ∃ D, dotV (((a, b), (c, d), (e, f), (g, h)), n) = D := ⟨_, rfl⟩
  rw [hD]
  have HD0 := (dot_all a b c d e f g h n M hM).trans hD
  obtain ⟨q, hq⟩ : ∃ q, (([(a, b), (c, d), (e, f), (g, h)] : List Pnt).take M) = q := ⟨_, rfl⟩
  rw [hq] at HD0
  have hql : q.length = M := by rw [← hq, List.length_take]; simp; omega
  have HQL := Lib.hid hql
  have HD := Lib.hid HD0
  have HSUB := Lib.hid (fun (i : Nat) (p : Pnt) (hp : q[i]? = some p) => (show ([(a, b), (c, d), (e, f), (g, h)] : List Pnt)[i]? = some p by
    rw [← hq, List.getElem?_take] at hp
    split at hp
    · exact hp
    · cases hp))
  have hM4 : M ≤ 4 ∧ 0 < M := by omega
  clear hD HD0 hq hql hM
  go_enter Tryd.func22, Tryd.ntmps22
  go_upto_region 1 with fail
  refine any_gen (fun z => (z.cell? ⟨w.heap.size, 8, none⟩ = some (.int .i64 n) ∧ (∀ (i : Nat) (p : Pnt), ([(a, b), (c, d), (e, f), (g, h)] : List Pnt)[i]? = some p → z.cell? ⟨w.heap.size, i * 2, none⟩ = some (.int .i64 p.1) ∧ z.cell? ⟨w.heap.size, i * 2 + 1, none⟩ = some (.int .i64 p.2))) ∧ w.heap.size + 1 ≤ z.heap.size ∧ Below w.heap.size w z) ⟨⟨by simp, seg_cells (by simp) (by simp) (by simp) (by simp) (by simp) (by simp) (by simp) (by simp)⟩, by simp, (Below.refl _ _).alloc (Nat.le_refl _) _⟩ ?_
  rintro w1 ⟨hcc, hs, hb0⟩
  have HCC := Lib.hid hcc
  clear hcc
  go_wp2
  go_loopw [3] (fun s3 wr => ∃ i : Nat, s3 = .int .i64 i ∧ i ≤ M ∧ (q.drop i).all (fun p => decide (p = (a, b))) = D ∧ Below w1.heap.size w1 wr) (fun s3 _ => M - (intOf s3).toNat)
  case atStart => exact ⟨0, rfl, Nat.zero_le _, HD.out, Below.refl _ _⟩
  case round =>
    obtain ⟨i, rfl, hi, hd, hbr⟩ := hrel
    have HDI := Lib.hid hd
    clear hd
    have k8 := (hbr.cell (by (try dsimp only); omega)).trans HCC.out.1
    by_cases hlt : i < M
    · obtain ⟨⟨x, y⟩, hp⟩ : ∃ p, q[i]? = some p := ⟨_, List.getElem?_eq_getElem (by rw [HQL.out]; exact hlt)⟩
      obtain ⟨e1, e2⟩ := HCC.out.2 i (x, y) (HSUB.out i _ hp)
      obtain ⟨e3, e4⟩ := HCC.out.2 0 (a, b) rfl
      have d1 := (hbr.cell (by (try dsimp only); omega)).trans e1
      have d2 := (hbr.cell (by (try dsimp only); omega)).trans e2
      have d3 := (hbr.cell (by (try dsimp only); omega)).trans e3
      have d4 := (hbr.cell (by (try dsimp only); omega)).trans e4
      dsimp only at d1 d2 d3 d4
      simp only [Nat.zero_mul, Nat.zero_add] at d3 d4
      obtain ⟨bb, hbb⟩ : ∃ bb, decide ((x, y) = (a, b)) = bb := ⟨_, rfl⟩
      have NE := fun w => ne_pt7 x y a b bb hbb w
      have HN := Lib.hid (show (bb && (q.drop (i + 1)).all (fun p => decide (p = (a, b)))) = D by
        have e := List.drop_eq_getElem_cons (l := q) (i := i) (by rw [HQL.out]; exact hlt)
        rw [← HDI.out, e, List.all_cons, (List.getElem?_eq_some_iff.1 hp).2, hbb])
      have p1 : decide ((i : Int) < (M : Int)) = true := by simp; omega
      have p2 : (0 : Int) ≤ (i : Int) := by omega
      have p3 : (i : Int) < 4 := by omega
      have p4 : IntKind.i64.wrap ((i : Int) + 1) = (i : Int) + 1 := IntWalk.i64_in _ (by omega)
      clear hp hbb e1 e2 e3 e4
      go_wp2_with fail
      go_quiet (fail)
      cases bb
      · have F := Lib.hid (show false = D from HN.out)
        go_wp2
        go_ret
        exact ⟨by rw [← F.out]; rfl, hb0.trans (below_dN (hbr.mono (by omega)) _)⟩
      · have F := Lib.hid (show (q.drop (i + 1)).all (fun p => decide (p = (a, b))) = D from HN.out)
        go_wp2
        go_roundw
        case rel => exact ⟨i + 1, by go_num, by omega, F.out, below_dN hbr _⟩
        case measure => simp [intOf]; omega
    · have F := Lib.hid (show true = D by
        rw [← HDI.out, show i = M by omega, ← HQL.out, List.drop_length]; rfl)
      have p1 : decide ((i : Int) < (M : Int)) = false := by simp; omega
      go_wp2
      go_ret
      exact ⟨by rw [← F.out]; rfl, hb0.trans (hbr.mono (by omega))⟩
theorem r7dot_any (a b c d e f g h n : Int) (w : World) :
    Calls Tryd.prog 22 #[G9 a b c d e f g h n] w fun z w' => z = .returned (.bool (dotV (((a, b), (c, d), (e, f), (g, h)), n))) ∧ Below w.heap.size w w' := by
  by_cases h2 : n ≤ 2
  · exact r7dot_core a b c d e f g h n 2 2 w (.inl ⟨h2, rfl⟩) (by omega) (by split <;> omega) (by split <;> omega) (by omega) (by decide) (by decide)
  · by_cases h3 : n = 3
    · exact r7dot_core a b c d e f g h n 3 3 w (.inr (.inl ⟨h3, rfl⟩)) (by omega) (by split <;> omega) (by split <;> omega) (by omega) (by decide) (by decide)
    · exact r7dot_core a b c d e f g h n n 4 w (.inr (.inr ⟨by omega, rfl⟩)) (by omega) (by split <;> omega) (by split <;> omega) (by omega) (by split <;> omega) (by split <;> omega)
end Go.Proofs.YtalgmnnimfenpaaDoor
