/- The program's own iterator of guesses at a root: its contract. -/
import Derived.RangeFuncNested
import Derived.RangeFuncBound
import Derived.RangeFuncCalls
import Derived.RangeFuncLeaves
import Derived.RangeFuncFrom
import Derived.Shelf.Abstract
import Derived.Shelf.RegionOpen
import Derived.WalkKit
import Derived.OwnWalkIn
import Derived.TacticsInMore
import Derived.LoopNIn
import Derived.LoopIn
import Derived.Test.YtmdhlkdeadfgdaaRootA
namespace Go.Proofs.Ytmdhlkdeadfgdaa
open Go.RowKit Go.Shelf
set_option linter.unusedVariables false
set_option linter.unusedSimpArgs false
set_option maxHeartbeats 2000000
set_option maxRecDepth 100000
attribute [local go_sem] Oper.semAt_some

/-- The two cells that the iterator has captured stay as they are. -/
def Two (B1 B2 : Nat) (A B : World) : Prop :=
  ∀ v, (A.cell? ⟨B1, 0, none⟩ = some v → B.cell? ⟨B1, 0, none⟩ = some v) ∧ (A.cell? ⟨B2, 0, none⟩ = some v → B.cell? ⟨B2, 0, none⟩ = some v)
theorem two_t {B1 B2 : Nat} {A B C : World} (h : Two B1 B2 A B) (k : Two B1 B2 B C) : Two B1 B2 A C := fun v => ⟨fun e => (k v).1 ((h v).1 e), fun e => (k v).2 ((h v).2 e)⟩
theorem grown_drew (w : World) (n : Nat) (row : Option Nat) : w.grownBy (w.drewN n) row := ⟨rfl, rfl, rfl, Nat.le_refl _, fun _ _ _ => rfl⟩
theorem two_b {B1 B2 : Nat} (W : World) (l : Nat) (o o' : Obj) (h : W.heap[l]? = some o) (ho : o.isCells = false) : Two B1 B2 W (W.putObj l o') := fun v =>
  ⟨fun e => cell_kept e (grownBy_putObj' W l o') (fun r e => by cases e; exact ⟨o, h, ho⟩), fun e => cell_kept e (grownBy_putObj' W l o') (fun r e => by cases e; exact ⟨o, h, ho⟩)⟩
theorem two_set {B1 B2 b : Nat} (W : World) (v : Value) (h1 : b ≠ B1) (h2 : b ≠ B2) : Two B1 B2 W (W.setCell ⟨b, 0, none⟩ v) := fun v =>
  ⟨fun e => (cell_far _ _ _ _ h1).trans e, fun e => (cell_far _ _ _ _ h2).trans e⟩

theorem div64_nat (h l x : Nat) (w : World) (hh : h < x) (hl : l < 18446744073709551616) (h0 : 0 < x) (hx : x < 18446744073709551616) :
    Calls Try.prog 63 #[.int .u64 h, .int .u64 l, .int .u64 x] w fun e w' => e = .returned (.tuple #[.int .u64 ((h * 18446744073709551616 + l) / x : Nat), .int .u64 ((h * 18446744073709551616 + l) % x : Nat)]) ∧ ∃ n, w' = w.drewN n := by
  refine (div64_any h l x w (by omega) (by omega) (by omega)).mono ?_
  rintro e w' ⟨rfl, hw⟩
  refine ⟨?_, hw⟩
  rw [Int.natCast_ediv, Int.natCast_emod, Int.natCast_add, Int.natCast_mul]
  rfl

theorem guesses1_in (n l B1 B2 : Nat) (hn : 1 ≤ n) (h lw : Nat) (h0 : 0 < h * 18446744073709551616 + lw) (hh : h < 9223372036854775808) (hl : lw < 18446744073709551616) (J Jx : List Nat → World → Prop)
    (hJd : ∀ s W n, J s W → J s (W.drewN n))
    (hY : ∀ pre (x : Nat) W, J pre W → pre.length < 18446744073709551616 → YieldAt Fence.wide (n - 1) Try.prog l #[.int .u64 x] W fun e W' =>
      (e = .returned (.bool true) ∧ J (pre ++ [x]) W' ∧ Two B1 B2 W W') ∨ (e = .returned (.bool false) ∧ Jx (pre ++ [x]) W'))
    (W : World) (c1 : W.cell? ⟨B1, 0, none⟩ = some (.int .u64 h)) (c2 : W.cell? ⟨B2, 0, none⟩ = some (.int .u64 lw)) (hJ : J [] W) :
    CallsIn Fence.wide n Try.prog 69 #[.func (.yield l) #[] #[], .pointer (some ⟨B1, 0, none⟩), .pointer (some ⟨B2, 0, none⟩)] W fun e W' => (∃ v, e = .returned v) ∧
      ((∃ ys, ys.getLast? = some (rt (h * 18446744073709551616 + lw)) ∧ J ys W') ∨ (∃ pre, True ∧ Jx pre W')) := by
  obtain ⟨A, hA⟩ : ∃ A, h * 18446744073709551616 + lw = A := ⟨_, rfl⟩
  have Fst := Lib.hid (fun w => first_any h lw w hh hl)
  rw [hA] at Fst h0 ⊢
  have HA := Lib.hid hA
  have H0 := Lib.hid h0
  clear hA h0
  refine callsIn_of_wp Try.func69 rfl trivial ?_ rfl
  simp only [Try.ntmps69, List.size_toArray, List.length_cons, List.length_nil, Nat.reduceAdd, Nat.reduceSub, Array.replicate_succ, Array.replicate_zero, List.push_toArray, List.append_toArray, List.nil_append, List.cons_append]
  gi_wp2_with (refine ⟨trivial, ?_⟩; gi_at_call 70; refine (callsIn_wide.2 (Fst.out _)).mono ?_; rintro e w' ⟨⟨g, hg1, hg2, rfl⟩, rfl⟩)
  gi_loopw [4] (fun s4 wr => ∃ (pre : List Nat) (x : Nat), s4 = .int .u64 x ∧ rt A ≤ x ∧ pre.length + x < 18446744073709551616 ∧ J pre wr ∧ wr.cell? ⟨B1, 0, none⟩ = some (.int .u64 h) ∧ wr.cell? ⟨B2, 0, none⟩ = some (.int .u64 lw))
    (fun s4 wr => (intOf s4).toNat)
  case atStart => exact ⟨[], g, rfl, hg1, by simpa using hg2, hJ, c1, c2⟩
  case round =>
    clear hg1 hg2
    obtain ⟨pre, x, rfl, hx1, hx2, hJs, d1, d2⟩ := hrel
    obtain ⟨fn, tmps, assign, body, hy, hR⟩ := hY pre x wr hJs (by omega)
    gi_wp2
    refine hR.mono ?_
    rintro e W3 (⟨rfl, hJ3, hk3⟩ | ⟨rfl, hJx3⟩)
    · have e1 := (hk3 _).1 d1
      have e2 := (hk3 _).2 d2
      clear d1 d2
      have x0 := Nat.lt_of_lt_of_le (rt_pos H0.out) hx1
      have hhx : h < x := by have := HA.out; have := hi_lt_rt H0.out (by omega); omega
      have hd := fun w => div64_nat h lw x w hhx hl x0 (by omega)
      rw [HA.out] at hd
      have HD := Lib.hid hd
      have hq := newton_ge hx1
      obtain ⟨q, hq0⟩ : ∃ q, A / x = q := ⟨_, rfl⟩
      have hq2 : q < 18446744073709551616 := by
        rw [← hq0, ← HA.out]
        refine Nat.div_lt_of_lt_mul ?_
        have := Nat.mul_le_mul_right 18446744073709551616 (show h + 1 ≤ x from hhx)
        rw [Nat.add_mul] at this
        omega
      have HQ := Lib.hid hq0
      clear hd
      gi_wp2_with (refine ⟨trivial, ?_⟩; gi_at_call 63; refine (callsIn_wide.2 (HD.out _)).mono ?_; rintro e w4 ⟨rfl, n4, rfl⟩)
      obtain ⟨m, hm⟩ : ∃ m, (x + q) / 2 = m := ⟨_, rfl⟩
      rw [hq0, hm] at hq
      have Hm := Lib.hid hm
      have Hge := Lib.hid hq
      have Hst := Lib.hid (newton_stop x0 hx1)
      refine ⟨trivial, ?_⟩
      gi_at_call 71
      refine (callsIn_wide.2 (mean_any x q _ (by omega) hq2)).mono ?_
      rintro e w5 ⟨rfl, rfl⟩
      rw [Hm.out]
      clear hm hq HD hhx
      by_cases hlt : m < x
      · have q1 : decide ((x : Int) ≤ (m : Int)) = false := by simp; omega
        have q2 : decide (x ≤ m) = false := by simp; omega
        gi_wp2
        go_roundw
        case rel => exact ⟨pre ++ [x], m, rfl, Hge.out, by simp; omega, hJd _ _ _ hJ3, by simpa using e1, by simpa using e2⟩
        case measure => simp [intOf]; omega
      · have q1 : decide ((x : Int) ≤ (m : Int)) = true := by simp; omega
        have q2 : decide (x ≤ m) = true := by simp; omega
        have Hx := Lib.hid (Hst.out (by rw [HQ.out, Hm.out]; omega))
        gi_wp2
        refine bodyPost_ret (results_none rfl _ _ _) rfl ?_
        exact ⟨⟨_, rfl⟩, .inl ⟨pre ++ [x], by rw [← Hx.out]; simp, hJd _ _ _ hJ3⟩⟩
    · gi_wp2
      go_end0
      exact ⟨⟨_, rfl⟩, .inr ⟨pre ++ [x], trivial, hJx3⟩⟩

theorem guesses_in (n : Nat) (h lw : Nat) (w : World) :
    CallsIn Fence.wide n Try.prog 60 #[.int .u64 h, .int .u64 lw] w fun e w' => e = .returned (.func (.func 69) #[] #[.pointer (some ⟨w.heap.size, 0, none⟩), .pointer (some ⟨w.heap.size + 1, 0, none⟩)]) ∧ w' = (w.alloc (.cells #[.int .u64 h] 43)).alloc (.cells #[.int .u64 lw] 43) := by
  refine callsIn_of_wp Try.func60 rfl trivial ?_ rfl
  simp only [Try.ntmps60, List.size_toArray, List.length_cons, List.length_nil, Nat.reduceAdd, Nat.reduceSub, Array.replicate_succ, Array.replicate_zero, List.push_toArray, List.append_toArray, List.nil_append, List.cons_append]
  gi_wp2
  go_ret
  exact ⟨rfl, rfl⟩

/-- The guesses at the root of h times 2^64, and lw: the last of them is the root. -/
theorem guesses_stops (n B1 B2 : Nat) (hn : 1 ≤ n) (h lw : Nat) (h0 : 0 < h * 18446744073709551616 + lw) (hh : h < 9223372036854775808) (hl : lw < 18446744073709551616) (w : World) (b1 : B1 < w.heap.size) (b2 : B2 < w.heap.size)
    (c1 : w.cell? ⟨B1, 0, none⟩ = some (.int .u64 h)) (c2 : w.cell? ⟨B2, 0, none⟩ = some (.int .u64 lw)) :
    SeqStopsK Fence.wide n Try.prog 69 #[.pointer (some ⟨B1, 0, none⟩), .pointer (some ⟨B2, 0, none⟩)] (fun x : Nat => #[Value.int .u64 x]) (Two B1 B2) (fun ys => ys.getLast? = some (rt (h * 18446744073709551616 + lw))) (fun _ => True) 18446744073709551616 w := fun l J Jx W hW hJ hJx hY h00 =>
  guesses1_in n l B1 B2 hn h lw h0 hh hl J Jx (fun s W n hs => hJ s W _ none hs (grown_drew W n none) (fun r e => by cases e)) hY W ((hW.cell (p := ⟨B1, 0, none⟩) b1).trans c1) ((hW.cell (p := ⟨B2, 0, none⟩) b2).trans c2) h00
end Go.Proofs.Ytmdhlkdeadfgdaa
