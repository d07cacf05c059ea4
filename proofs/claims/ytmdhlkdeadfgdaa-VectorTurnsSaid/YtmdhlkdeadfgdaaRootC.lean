/- What the program's own roots answer: Long, Sqrt, Square. -/
import Derived.Test.YtmdhlkdeadfgdaaRootB
namespace Go.Proofs.Ytmdhlkdeadfgdaa
open Go.RowKit Go.Shelf
set_option linter.unusedVariables false
set_option linter.unusedSimpArgs false
set_option maxHeartbeats 2000000
set_option maxRecDepth 100000
attribute [local go_sem] Oper.semAt_some

theorem cell_of_box {W : World} {B : Nat} {v : Value} {t : TypeId} (h : W.heap[B]? = some (.cells #[v] t (0, 0))) : W.cell? ⟨B, 0, none⟩ = some v ∧ W.frozen? ⟨B, 0, none⟩ = false := by
  constructor <;> simp [World.cell?, World.frozen?, h]
theorem cell_new (W : World) (v : Value) (t : TypeId) : (W.alloc (.cells #[v] t)).cell? ⟨W.heap.size, 0, none⟩ = some v ∧ (W.alloc (.cells #[v] t)).frozen? ⟨W.heap.size, 0, none⟩ = false :=
  cell_of_box (World.alloc_heap_new W _)
theorem cell_alloc {W : World} {a : Addr} {v : Value} (o : Obj) (h : W.cell? a = some v) : (W.alloc o).cell? a = some v := cell_kept h (World.grownBy_alloc W o none) (fun r e => by cases e)
theorem frozen_alloc {W : World} {a : Addr} {v : Value} (o : Obj) (h : W.cell? a = some v) (hf : W.frozen? a = false) : (W.alloc o).frozen? a = false := (frozen_kept h (World.grownBy_alloc W o none) (fun r e => by cases e)).trans hf

theorem long_low (a : Int) (w : World) (ia : In a) (h : a ≤ 0) :
    Calls Try.prog 48 #[W a] w fun e w' => e = .returned (.int .u64 0) ∧ Below w.heap.size w w' := by
  have q : decide (cmpN a 0 ≤ 0) = true := by unfold cmpN; split <;> (try split) <;> simp <;> omega
  go_enter Try.func48, Try.ntmps48
  go_wp2_with fail
  refine (sign_any a _ ia).mono ?_
  rintro e w' ⟨rfl, hb⟩
  go_wp2
  go_ret
  exact ⟨rfl, (Below.refl _ _).alloc (by simp) _ |>.trans (hb.mono (by simp))⟩

theorem long_in (n : Nat) (hn : 3 ≤ n) (a : Int) (w : World) (ia : In a) (h0 : 0 < a) :
    CallsIn Fence.wide n Try.prog 48 #[W a] w fun e w' => e = .returned (.int .u64 (rt a.toNat : Nat)) ∧ Below w.heap.size w w' := by
  obtain ⟨h, hh⟩ := Int.eq_ofNat_of_zero_le (show 0 ≤ hi a by unfold In at ia; unfold hi; omega)
  obtain ⟨l, hl⟩ := Int.eq_ofNat_of_zero_le (lo_bd a).1
  have ea : a.toNat = h * 18446744073709551616 + l := by have := split_in a ia; omega
  have bh : h < 9223372036854775808 := by have := hi_bd a; omega
  have bl : l < 18446744073709551616 := by have := lo_bd a; omega
  have e1 : IntKind.u64.wrap (h : Int) = h := IntWalk.u64_in _ (by omega)
  have q : decide (cmpN a 0 ≤ 0) = false := by unfold cmpN; split <;> (try split) <;> simp <;> omega
  have hA : 0 < h * 18446744073709551616 + l := by omega
  have hs := fun w => sign_any a w ia
  rw [ea]
  unfold W at hs ⊢
  rw [hh, hl] at hs ⊢
  have HS := Lib.hid hs
  obtain ⟨R, hR⟩ : ∃ R, rt (h * 18446744073709551616 + l) = R := ⟨_, rfl⟩
  rw [hR]
  have HR := Lib.hid hR
  clear hs hR ea hh hl ia h0
  have h1 : 1 ≤ n := by omega
  refine callsIn_of_wp_marks Try.func48 rfl trivial ?_ rfl
  simp only [Try.ntmps48, List.size_toArray, List.length_cons, List.length_nil, Nat.reduceAdd, Nat.reduceSub, Array.replicate_succ, Array.replicate_zero, List.push_toArray, List.append_toArray, List.nil_append, List.cons_append]
  gi_wp2_with fail
  refine ⟨trivial, ?_⟩
  gi_at_call 59
  refine (callsIn_wide.2 (HS.out _)).mono ?_
  rintro e w1 ⟨rfl, hb⟩
  have hlt : w.heap.size < w1.heap.size := by have := hb.size; simp at this; omega
  have d0 : w1.cell? ⟨w.heap.size, 0, none⟩ = some (.int .i64 h) := (hb.cell (p := ⟨w.heap.size, 0, none⟩) (by simp)).trans (by simp)
  have d1 : w1.cell? ⟨w.heap.size, 1, none⟩ = some (.int .u64 l) := (hb.cell (p := ⟨w.heap.size, 1, none⟩) (by simp)).trans (by simp)
  have c0 := cell_alloc (Obj.cells #[Value.int IntKind.u64 0] 43) d0
  have c1 := cell_alloc (Obj.cells #[Value.int IntKind.u64 0] 43) d1
  have hB : Below w.heap.size w w1 := ((Below.refl _ _).alloc (by simp) _).trans (hb.mono (by simp))
  clear d0 d1 hb
  gi_wp2_with (refine ⟨trivial, ?_⟩; gi_at_call 60; refine (guesses_in _ h l _).mono ?_; rintro e w2 ⟨rfl, rfl⟩)
  have z0 := cell_new w1 (.int .u64 0) 43
  have g1 := cell_new (w1.alloc (Obj.cells #[Value.int IntKind.u64 0] 43)) (.int .u64 h) 43
  have g2 := cell_new ((w1.alloc (Obj.cells #[Value.int IntKind.u64 0] 43)).alloc (Obj.cells #[Value.int IntKind.u64 h] 43)) (.int .u64 l) 43
  simp only [World.size_alloc] at g1 g2
  have hB0 : Below w.heap.size w (((w1.alloc (Obj.cells #[Value.int IntKind.u64 0] 43)).alloc (Obj.cells #[Value.int IntKind.u64 h] 43)).alloc (Obj.cells #[Value.int IntKind.u64 l] 43)) :=
    ((hB.alloc (by omega) _).alloc (by simp; omega) _).alloc (by simp; omega) _
  have hG := guesses_stops (n - 1) (w1.heap.size + 1) (w1.heap.size + 1 + 1) (by omega) h l hA bh bl _ (by simp) (by simp) (cell_alloc _ g1.1) g2.1
  rw [HR.out] at hG
  refine wpIn_rangeFunc_ownF rfl (by omega) (gf := 69) (lb := #[.pointer (some ⟨w1.heap.size + 1, 0, none⟩), .pointer (some ⟨w1.heap.size + 1 + 1, 0, none⟩)]) rfl trivial (enters_of Try.func69 (by kernel_rfl) rfl)
    hG two_t (fun W l o o' _ h1 h2 _ => two_b W l o o' h1 h2) (Below.refl _ _) (fun _ => rfl)
    (fun pre W => (W.cell? ⟨w1.heap.size, 0, none⟩ = some (.int .u64 (pre.getLast?.getD 0 : Nat)) ∧ W.frozen? ⟨w1.heap.size, 0, none⟩ = false) ∧ Below w.heap.size w W)
    (fun _ _ _ => False)
    (OwnFrom.and (Own.from (fun s A B row hs hg hr => ⟨cell_kept hs.1 hg hr, (frozen_kept hs.1 hg hr).trans hs.2⟩) _) (ownFrom_below (Nat.le_refl _) (by simp; omega)))
    (fun _ _ _ _ _ hs _ _ => hs)
    ⟨⟨cell_alloc _ (cell_alloc _ z0.1), frozen_alloc _ (cell_alloc _ z0.1) (frozen_alloc _ z0.1 z0.2)⟩, hB0⟩
    (fun x : Nat => { tmps := #[.agg #[.int .i64 h, .int .u64 l], .pointer (some ⟨w.heap.size, 0, none⟩), .int .u64 0, .pointer (some ⟨w1.heap.size, 0, none⟩), .int .u64 x, .agg #[.int .i64 h, .int .u64 l], .int .i64 (cmpN a 0), .bool false, .pointer (some ⟨w.heap.size, 0, none⟩), .int .i64 h, .int .u64 h, .pointer (some ⟨w.heap.size, 1, none⟩), .int .u64 l, .func (.func 69) #[] #[.pointer (some ⟨w1.heap.size + 1, 0, none⟩), .pointer (some ⟨w1.heap.size + 1 + 1, 0, none⟩)], .int .u64 x, undef, undef], defers := [] }) ?assign ?body ?done ?stop
  case assign =>
    intro l x W K hK
    gi_wp2
    exact hK
  case body =>
    rintro l pre x W ⟨⟨hc, hf⟩, hB⟩ _
    gi_wp2
    exact ⟨KeepsOthers.setCell _ _ _, two_set W _ (by omega) (by omega), ⟨by rw [List.getLast?_append]; exact World.cell?_setCell_same' _ _ _ (by rw [hc]; rfl), by rw [World.frozen?_setCell]; exact hf⟩, hB.setCell (p := ⟨w1.heap.size, 0, none⟩) (by simp; omega) _⟩
  case done =>
    rintro D ys W hD hys ⟨⟨hc, _⟩, hB⟩ hK
    rw [hys] at hc
    simp only [Option.getD_some] at hc
    gi_wp2
    refine ⟨by simp, .inl ⟨_, _, rfl, run_takeDeferred hK, ?_⟩⟩
    exact ⟨_, results_tmp rfl _ _ _, rfl, hB.trans (belowK_b (w := w) (Nat.le_refl _) W D _ _ (by simp at hD; omega) hK rfl rfl)⟩
  case stop =>
    rintro D c pre W _ _ h _
    exact h.elim

theorem long_any (a : Int) (w : World) (ia : In a) :
    Calls Try.prog 48 #[W a] w fun e w' => e = .returned (.int .u64 (rt a.toNat : Nat)) ∧ Below w.heap.size w w' := by
  by_cases h : a ≤ 0
  · rw [show a.toNat = 0 from by omega, rt_0]
    exact long_low a w ia h
  · exact callsIn_wide.1 (long_in 3 (by omega) a w ia (by omega))

theorem sqrt_any (n : Nat) (w : World) (hn : n < 18446744073709551616) :
    Calls Try.prog 40 #[.int .u64 n] w fun e w' => e = .returned (.int .u64 (rt n : Nat)) ∧ Below w.heap.size w w' := by
  have e1 : (0 : Int) = hi (n : Int) := by unfold hi; omega
  have e2 : (n : Int) = lo (n : Int) := by unfold lo; omega
  have hl := fun wx => long_any n wx (by unfold In; omega)
  unfold W at hl
  rw [← e1, ← e2, Int.toNat_natCast] at hl
  have HL := Lib.hid hl
  clear hl e1 e2
  go_enter Try.func40, Try.ntmps40
  go_wp2_with fail
  refine (HL.out _).mono ?_
  rintro e w2 ⟨rfl, h2⟩
  go_wp2
  go_ret
  exact ⟨rfl, h2⟩

/-- Is n a square? -/
def isSqL (n : Nat) : Bool := decide (rt n * rt n = n)
end Go.Proofs.Ytmdhlkdeadfgdaa
