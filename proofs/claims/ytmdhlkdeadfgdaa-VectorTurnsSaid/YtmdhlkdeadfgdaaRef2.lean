/- What the document's own roots answer. -/
import Derived.Test.YtmdhlkdeadfgdaaRefB
import Derived.Test.YtmdhlkdeadfgdaaMore
import Derived.Test.YtmdhlkdeadfgdaaRootNum
namespace Go.Proofs.Ytmdhlkdeadfgdaa
open Go.RowKit
set_option linter.unusedVariables false
set_option linter.unusedSimpArgs false
set_option maxHeartbeats 2000000

/-- What upTo keeps: the number a in its box, mid at g7, the square so far, S, at g8. -/
structure Sq (w : World) (a mid : Int) (g7 g8 : Nat) (S : Int) (wr : World) : Prop where
  c0 : wr.cell? ⟨w.heap.size, 0, none⟩ = some (.int .i64 (hi a))
  c1 : wr.cell? ⟨w.heap.size, 1, none⟩ = some (.int .u64 (lo a))
  d0 : wr.cell? ⟨g7, 0, none⟩ = some (.int .i64 (hi mid))
  d1 : wr.cell? ⟨g7, 1, none⟩ = some (.int .u64 (lo mid))
  e0 : wr.cell? ⟨g8, 0, none⟩ = some (.int .i64 (hi S))
  e1 : wr.cell? ⟨g8, 1, none⟩ = some (.int .u64 (lo S))
  f0 : wr.frozen? ⟨g8, 0, none⟩ = false
  f1 : wr.frozen? ⟨g8, 1, none⟩ = false
  l0 : w.heap.size < wr.heap.size
  l7 : g7 < wr.heap.size
  l8 : g8 < wr.heap.size
  n0 : g8 ≠ w.heap.size
  n7 : g8 ≠ g7
  gb : w.heap.size ≤ g8
  bel : Below w.heap.size w wr
theorem Sq.step {w : World} {a mid : Int} {g7 g8 : Nat} {S : Int} {x y : World} (k : Sq w a mid g7 g8 S x) (hb : Below x.heap.size x y) : Sq w a mid g7 g8 S y :=
  ⟨(hb.cell (p := ⟨w.heap.size, 0, none⟩) k.l0).trans k.c0, (hb.cell (p := ⟨w.heap.size, 1, none⟩) k.l0).trans k.c1, (hb.cell (p := ⟨g7, 0, none⟩) k.l7).trans k.d0, (hb.cell (p := ⟨g7, 1, none⟩) k.l7).trans k.d1,
    (hb.cell (p := ⟨g8, 0, none⟩) k.l8).trans k.e0, (hb.cell (p := ⟨g8, 1, none⟩) k.l8).trans k.e1, (hb.frozen (p := ⟨g8, 0, none⟩) k.l8).trans k.f0, (hb.frozen (p := ⟨g8, 1, none⟩) k.l8).trans k.f1,
    Nat.lt_of_lt_of_le k.l0 hb.size, Nat.lt_of_lt_of_le k.l7 hb.size, Nat.lt_of_lt_of_le k.l8 hb.size, k.n0, k.n7, k.gb, k.bel.trans (hb.mono (Nat.le_of_lt k.l0))⟩
theorem Sq.put {w : World} {a mid : Int} {g7 g8 : Nat} {S : Int} {x : World} (k : Sq w a mid g7 g8 S x) (S' : Int) : Sq w a mid g7 g8 S' ((x.setCell ⟨g8, 0, none⟩ (.int .i64 (hi S'))).setCell ⟨g8, 1, none⟩ (.int .u64 (lo S'))) :=
  ⟨(cell_far _ _ _ _ k.n0).trans ((cell_far _ _ _ _ k.n0).trans k.c0), (cell_far _ _ _ _ k.n0).trans ((cell_far _ _ _ _ k.n0).trans k.c1), (cell_far _ _ _ _ k.n7).trans ((cell_far _ _ _ _ k.n7).trans k.d0), (cell_far _ _ _ _ k.n7).trans ((cell_far _ _ _ _ k.n7).trans k.d1),
    by rw [World.cell?_setCell_other _ _ _ _ (by simp)]; exact World.cell?_setCell_same _ _ _ k.e0, World.cell?_setCell_same _ _ _ ((World.cell?_setCell_other _ _ _ _ (by simp)).trans k.e1),
    by rw [World.frozen?_setCell, World.frozen?_setCell]; exact k.f0, by rw [World.frozen?_setCell, World.frozen?_setCell]; exact k.f1,
    by simpa [World.setCell] using k.l0, by simpa [World.setCell] using k.l7, by simpa [World.setCell] using k.l8, k.n0, k.n7, k.gb, (k.bel.setCell k.gb _).setCell k.gb _⟩
theorem Sq.drew {w : World} {a mid : Int} {g7 g8 : Nat} {S : Int} {x : World} (k : Sq w a mid g7 g8 S x) : Sq w a mid g7 g8 S x.drew := k.step (Below.refl _ _).drew

theorem dbl (S : Int) (k : Nat) : S * 2 ^ k + S * 2 ^ k = S * 2 ^ (k + 1) := by rw [Int.pow_succ, ← Int.mul_assoc]; omega
/-- x² by halves. -/
theorem halves_sq (x : Nat) : ((x / 4294967296 : Nat) : Int) * ((x / 4294967296 : Nat) : Int) * 18446744073709551616 + ((x / 4294967296 : Nat) : Int) * ((x % 4294967296 : Nat) : Int) * 8589934592 + ((x % 4294967296 : Nat) : Int) * ((x % 4294967296 : Nat) : Int) = ((x * x : Nat) : Int) := by
  have h := halves_mul (x : Int) (x : Int) _ _ _ _ rfl rfl rfl rfl
  have e1 : (x : Int) / 4294967296 = ((x / 4294967296 : Nat) : Int) := by omega
  have e2 : (x : Int) % 4294967296 = ((x % 4294967296 : Nat) : Int) := by omega
  rw [e1, e2] at h
  rw [Int.natCast_mul, ← h, Int.mul_comm ((x % 4294967296 : Nat) : Int) ((x / 4294967296 : Nat) : Int)]
  omega

/-- Is the square of x at most a? -/
def sqLe (x : Nat) (a : Int) : Bool := decide (((x * x : Nat) : Int) ≤ a)
theorem sq_bd (x : Nat) (hx : x < 18446744073709551616) : 0 ≤ ((x * x : Nat) : Int) ∧ ((x * x : Nat) : Int) < 340282366920938463463374607431768211456 := by
  have h1 := Nat.mul_le_mul (show x ≤ 18446744073709551615 by omega) (show x ≤ 18446744073709551615 by omega)
  generalize x * x = y at *
  omega
theorem upTo_any (x : Nat) (a : Int) (w : World) (hx : x < 18446744073709551616) (ia : In a) :
    Calls Try.prog 49 #[.int .u64 x, W a] w fun e w' => e = .returned (.bool (sqLe x a)) ∧ Below w.heap.size w w' := by
  obtain ⟨h, hh⟩ : ∃ h : Nat, x / 4294967296 = h := ⟨_, rfl⟩
  obtain ⟨l, hl⟩ : ∃ l : Nat, x % 4294967296 = l := ⟨_, rfl⟩
  have bh : h ≤ 4294967295 := by omega
  have bl : l ≤ 4294967295 := by omega
  have eh : (x : Int) / 4294967296 = h := by omega
  have el : (x : Int) % 4294967296 = l := by omega
  have HX := halves_sq x
  rw [hh, hl] at HX
  have HS := Lib.hid HX
  have bx : 0 ≤ (x : Int) ∧ (x : Int) ≤ 18446744073709551615 := by omega
  have bhi : -9223372036854775808 ≤ (h : Int) ∧ (h : Int) ≤ 9223372036854775807 := by omega
  have bli : -9223372036854775808 ≤ (l : Int) ∧ (l : Int) ≤ 9223372036854775807 := by omega
  clear HX hh hl
  go_enter Try.func49, Try.ntmps49
  go_wp2_with fail
  refine (rmul_any h l _ bhi bli).mono ?_
  rintro e w1 ⟨rfl, h1⟩
  go_wp2_with fail
  refine (rmul_any h h _ bhi bhi).mono ?_
  rintro e w2 ⟨rfl, h2⟩
  have s1 : w.heap.size < w1.heap.size := by have := h1.size; simp at this; omega
  have s2 : w1.heap.size < w2.heap.size := by have := h2.size; simp at this; omega
  have kp : Sq w a (h * l) w1.heap.size w2.heap.size ((h : Int) * h * 2 ^ 0) (w2.alloc (Obj.cells #[.int .i64 (hi ((h : Int) * h)), .int .u64 (lo ((h : Int) * h))] 51)) := by
    have x0 := (h1.cell (p := ⟨w.heap.size, 0, none⟩) (by simp)).trans (by simp : _ = some (.int .i64 (hi a)))
    have x1 := (h1.cell (p := ⟨w.heap.size, 1, none⟩) (by simp)).trans (by simp : _ = some (.int .u64 (lo a)))
    have y0 := (h2.cell (p := ⟨w.heap.size, 0, none⟩) (by simp; omega)).trans ((World.cell?_alloc_old _ _ _ (by dsimp only; omega)).trans x0)
    have y1 := (h2.cell (p := ⟨w.heap.size, 1, none⟩) (by simp; omega)).trans ((World.cell?_alloc_old _ _ _ (by dsimp only; omega)).trans x1)
    have y2 := (h2.cell (p := ⟨w1.heap.size, 0, none⟩) (by simp)).trans (by simp : _ = some (.int .i64 (hi ((h : Int) * l))))
    have y3 := (h2.cell (p := ⟨w1.heap.size, 1, none⟩) (by simp)).trans (by simp : _ = some (.int .u64 (lo ((h : Int) * l))))
    have b1 : Below w.heap.size w w1 := ((Below.refl _ _).alloc (by simp) _).trans (h1.mono (by simp))
    have b2 : Below w.heap.size w w2 := (b1.alloc (by omega) _).trans (h2.mono (by simp; omega))
    rw [Int.pow_zero, Int.mul_one]
    exact ⟨(World.cell?_alloc_old _ _ _ (by dsimp only; omega)).trans y0, (World.cell?_alloc_old _ _ _ (by dsimp only; omega)).trans y1, (World.cell?_alloc_old _ _ _ (by dsimp only; omega)).trans y2, (World.cell?_alloc_old _ _ _ (by dsimp only; omega)).trans y3,
      by simp, by simp, by simp, by simp, by simp; omega, by simp; omega, by simp, by omega, by omega, by omega, b2.alloc (by omega) _⟩
  obtain ⟨g7, hg7⟩ : ∃ g, w1.heap.size = g := ⟨_, rfl⟩
  obtain ⟨g8, hg8⟩ : ∃ g, w2.heap.size = g := ⟨_, rfl⟩
  go_wp2
  rw [hg7, hg8] at kp
  refine any_gen (fun z => Sq w a (h * l) g7 g8 ((h : Int) * h * 2 ^ 0) z) kp ?_
  clear kp s1 s2 h1 h2 hg7 hg8
  rintro w3 kp
  go_loopw [9] (fun i wr => ∃ k : Nat, k ≤ 32 ∧ i = .int .i64 k ∧ Sq w a (h * l) g7 g8 ((h : Int) * h * 2 ^ k) wr) (fun i _ => 32 - (intOf i).toNat)
  case atStart => exact ⟨0, by omega, rfl, kp⟩
  case round =>
    clear kp
    obtain ⟨k, hk, rfl, kp⟩ := hrel
    by_cases hlt : k < 32
    · have e0 := kp.e0
      have e1 := kp.e1
      go_wp2_with fail
      refine (radd_any _ _ _).mono ?_
      rintro e y ⟨rfl, hy⟩
      have kp2 := kp.step hy
      clear kp e0 e1
      have e0 := kp2.e0
      have e1 := kp2.e1
      have f0 := kp2.f0
      have f1 := kp2.f1
      go_wp2
      go_roundw
      case rel => exact ⟨k + 1, by omega, by go_num, by rw [← dbl]; exact kp2.put _⟩
      case measure => simp [intOf]; omega
    · obtain rfl : k = 32 := by omega
      go_upto_region 9 with fail
      go_cut [9] (fun s9 wx => Sq w a (h * l) g7 g8 ((h : Int) * h * 2 ^ 32 + ((h : Int) * l + h * l)) wx)
      case first =>
        have ky := kp.drew
        clear kp
        have d0 := ky.d0; have d1 := ky.d1; have e0 := ky.e0; have e1 := ky.e1; have f0 := ky.f0; have f1 := ky.f1
        go_region_with (first | (go_at_call 45; refine (radd_any _ _ _).mono ?_; rintro e z ⟨rfl, hb⟩; have ky := Sq.step ‹_› hb; have d0 := ky.d0; have d1 := ky.d1; have e0 := ky.e0; have e1 := ky.e1; have f0 := ky.f0; have f1 := ky.f1))
        all_goals
          go_wp2_with fail
          go_meet
          exact ky.put _
      case rest =>
        obtain ⟨w4, rfl⟩ : ∃ w4 : World, w4 = wc := ⟨_, rfl⟩
        clear kp
        go_wp2
        go_loopw [10] (fun i wr => ∃ k : Nat, k ≤ 32 ∧ i = .int .i64 k ∧ Sq w a (h * l) g7 g8 (((h : Int) * h * 2 ^ 32 + ((h : Int) * l + h * l)) * 2 ^ k) wr) (fun i _ => 32 - (intOf i).toNat)
        case atStart => exact ⟨0, by omega, rfl, by rw [Int.pow_zero, Int.mul_one]; exact hcut⟩
        case round =>
          clear hcut
          obtain ⟨k, hk, rfl, kp⟩ := hrel
          by_cases hlt : k < 32
          · have e0 := kp.e0
            have e1 := kp.e1
            go_wp2_with fail
            refine (radd_any _ _ _).mono ?_
            rintro e y ⟨rfl, hy⟩
            have kp2 := kp.step hy
            clear kp e0 e1
            have e0 := kp2.e0
            have e1 := kp2.e1
            have f0 := kp2.f0
            have f1 := kp2.f1
            go_wp2
            go_roundw
            case rel => exact ⟨k + 1, by omega, by go_num, by rw [← dbl]; exact kp2.put _⟩
            case measure => simp [intOf]; omega
          · obtain rfl : k = 32 := by omega
            go_upto_region 14 with fail
            have hf : ((h : Int) * h * 2 ^ 32 + ((h : Int) * l + h * l)) * 2 ^ 32 + (l : Int) * l = ((x * x : Nat) : Int) := by rw [← HS.out]; omega
            have Hf := Lib.hid hf
            clear hf
            go_cut [10] (fun s10 wx => Sq w a (h * l) g7 g8 ((x * x : Nat) : Int) wx)
            case first =>
              have ky := kp.drew
              clear kp
              have e0 := ky.e0; have e1 := ky.e1; have f0 := ky.f0; have f1 := ky.f1
              go_region_with (first | (go_at_call 44; refine (rmul_any l l _ bli bli).mono ?_; rintro e z ⟨rfl, hb⟩; have ky := Sq.step ‹_› hb; have d0 := ky.d0; have d1 := ky.d1; have e0 := ky.e0; have e1 := ky.e1; have f0 := ky.f0; have f1 := ky.f1) | (go_at_call 45; refine (radd_any _ _ _).mono ?_; rintro e z ⟨rfl, hb⟩; have ky := Sq.step ‹_› hb; have d0 := ky.d0; have d1 := ky.d1; have e0 := ky.e0; have e1 := ky.e1; have f0 := ky.f0; have f1 := ky.f1))
              all_goals
                go_wp2_with fail
                go_meet
                rw [← Hf.out]
                exact ky.put _
            case rest =>
              have sb := sq_bd x hx
              obtain ⟨X, hX⟩ : ∃ X : Int, ((x * x : Nat) : Int) = X := ⟨_, rfl⟩
              rw [hX] at hcut sb
              have HX := Lib.hid hX
              have HB := Lib.hid sb
              clear hX sb
              have c0 := hcut.c0; have c1 := hcut.c1; have e0 := hcut.e0; have e1 := hcut.e1
              by_cases hs : 0 ≤ hi X
              · have iX : In X := by have := HB.out; unfold hi at hs; unfold In; omega
                have IX := Lib.hid iX
                have q1 : decide (0 ≤ hi X) = true := by simp; omega
                clear iX
                go_wp2_with fail
                refine (rcmp_any _ _ _ IX.out ia).mono ?_
                rintro e y ⟨rfl, hy⟩
                go_wp2
                go_ret
                refine ⟨?_, hcut.bel.trans (hy.mono (Nat.le_of_lt hcut.l0))⟩
                have q2 : decide (cmpN X a ≤ 0) = sqLe x a := by unfold sqLe; rw [HX.out, decide_eq_decide]; unfold cmpN; split <;> (try split) <;> omega
                exact congrArg (fun b => Ending.returned (.bool b)) q2
              · have q1 : decide (0 ≤ hi X) = false := by simp; omega
                have Hq := Lib.hid (show sqLe x a = false by unfold sqLe; rw [HX.out]; have := HB.out; unfold hi at hs; unfold In at ia; simp; omega)
                go_wp2
                go_ret
                refine ⟨?_, hcut.bel⟩
                rw [Hq.out]
                rfl

end Go.Proofs.Ytmdhlkdeadfgdaa
