/- What the program's own Parse answers: a text's number, or ErrDigits, by a recovered panic. -/
import Derived.Test.YtjjklchfcklahaaDoorFixE
import Derived.Defers
import Derived.Recover
import Derived.Laws.Pointers
namespace Go.Proofs.YtjjklchfcklahaaDoor
open Go.RowKit
set_option linter.unusedVariables false
set_option linter.unusedSimpArgs false
set_option maxHeartbeats 4000000

/-- The two named results at blocks b and b + 1. -/
structure Res (b : Nat) (n e : Int) (x : World) : Prop where
  cn : x.cell? ⟨b, 0, none⟩ = some (.int .i64 n)
  ce : x.cell? ⟨b + 1, 0, none⟩ = some (.int .i64 e)
  fn : x.frozen? ⟨b, 0, none⟩ = false
  fe : x.frozen? ⟨b + 1, 0, none⟩ = false

theorem Res.step {b : Nat} {n e : Int} {x y : World} (h : Res b n e x) (hb : Below (b + 1 + 1) x y) : Res b n e y :=
  ⟨(hb.cell (p := ⟨b, 0, none⟩) (show b < b + 1 + 1 by omega)).trans h.cn, (hb.cell (p := ⟨b + 1, 0, none⟩) (show b + 1 < b + 1 + 1 by omega)).trans h.ce,
    (hb.frozen (p := ⟨b, 0, none⟩) (show b < b + 1 + 1 by omega)).trans h.fn, (hb.frozen (p := ⟨b + 1, 0, none⟩) (show b + 1 < b + 1 + 1 by omega)).trans h.fe⟩

theorem Res.put {b : Nat} {n e : Int} {x : World} (h : Res b n e x) (n' e' : Int) : Res b n' e' ((x.setCell ⟨b, 0, none⟩ (.int .i64 n')).setCell ⟨b + 1, 0, none⟩ (.int .i64 e')) :=
  ⟨by rw [World.cell?_setCell_other _ _ _ _ (by simp)]; exact World.cell?_setCell_same _ _ _ h.cn, World.cell?_setCell_same _ _ _ ((World.cell?_setCell_other _ _ _ _ (by simp)).trans h.ce),
    by rw [World.frozen?_setCell, World.frozen?_setCell]; exact h.fn, by rw [World.frozen?_setCell, World.frozen?_setCell]; exact h.fe⟩
theorem put_bel {b : Nat} {w x : World} (hb : Below b w x) (u v : Value) : Below b w ((x.setCell ⟨b, 0, none⟩ u).setCell ⟨b + 1, 0, none⟩ v) :=
  Below.setCell (p := ⟨b + 1, 0, none⟩) (Below.setCell (p := ⟨b, 0, none⟩) hb (Nat.le_refl b) u) (Nat.le_succ b) v

theorem catch_idle (b : Nat) (w : World) :
    CallsD Tryd.prog 71 #[.pointer (some ⟨b, 0, none⟩), .pointer (some ⟨b + 1, 0, none⟩)] .returning w fun e u' w' => e = .returned (.tuple #[]) ∧ u' = .returning ∧ w' = w := by
  refine callsD_of_wpS Tryd.func71 rfl fun c₀ cs hu => ?_
  apply wpS_seq
  apply wpS_region
  simp [wpOpsS, go_sem, recoverD, hu, Tryd.ntmps71, Exit.thenS]
  apply wpS_seq
  apply wpS_region
  simp [wpOpsS, go_sem, Tryd.ntmps71, Exit.thenS]
  refine wpS_cond (t := false) (by simp [Act.eval, Array.replicate]) ?_
  simp only [Bool.false_eq_true, if_false]
  refine wpS_of_wp (wp_skip ?_)
  cases c₀
  simp_all [bodyPostS, results, Tryd.results71]

theorem catch_panicking (b : Nat) (n e : Int) (w : World) (h : Res b n e w) :
    CallsD Tryd.prog 71 #[.pointer (some ⟨b, 0, none⟩), .pointer (some ⟨b + 1, 0, none⟩)] (.panicking PC) w fun e u' w' =>
      e = .returned (.tuple #[]) ∧ u' = .panicking [{ v := .iface 27 (.int .i64 30), recovered := true }] ∧ w' = (w.setCell ⟨b, 0, none⟩ (.int .i64 0)).setCell ⟨b + 1, 0, none⟩ (.int .i64 30) := by
  have hcn := h.cn; have hce := h.ce; have hfn := h.fn; have hfe := h.fe
  have hce2 : (w.setCell ⟨b, 0, none⟩ (.int .i64 0)).cell? ⟨b + 1, 0, none⟩ = some (.int .i64 e) := by
    rw [World.cell?_setCell_other _ _ _ _ (by simp)]; exact hce
  have hfe2 : (w.setCell ⟨b, 0, none⟩ (.int .i64 0)).frozen? ⟨b + 1, 0, none⟩ = false := by
    rw [World.frozen?_setCell]; exact hfe
  refine callsD_of_wpS Tryd.func71 rfl fun c₀ cs hu => ?_
  apply wpS_seq
  apply wpS_region
  simp [wpOpsS, go_sem, recoverD, hu, PC, Tryd.ntmps71, Exit.thenS]
  apply wpS_seq
  apply wpS_region
  simp [wpOpsS, go_sem, Tryd.ntmps71, Exit.thenS]
  refine wpS_cond (t := true) (by simp [Act.eval, Array.replicate]) ?_
  simp only [if_true]
  apply wpS_region
  simp [wpOpsS, go_sem, hcn, hfn, hce, hfe, hce2, hfe2, bodyPostS, results, Tryd.results71]

theorem parse_walk (t : ByteArray) (w : World) (hs : t.size < 9223372036854775808) (hs30 : t.size ≤ 30) (V : Value) (hV : parseL t.data.toList = V) :
    Calls Tryd.prog 58 #[.string t] w fun e w' => e = .returned V ∧ Below w.heap.size w w' := by
  have hmf : ∀ (fn : Fn) (first cap : Array Value) (w : World), (Instr.makeFunc fn first cap).run Tryd.prog w = .ok (.func fn first cap) w := fun _ _ _ _ => rfl
  have q1 : decide (30 < (t.size : Int)) = false := by simp; omega
  have q2 : decide (30 < t.size) = false := by simp; omega
  have HV := Lib.hid hV
  clear hV
  go_enter_defers Tryd.func58, Tryd.ntmps58
  go_wp2_with fail
  have a0 : At (w.heap.size + 1 + 1) t (((w.alloc (Obj.cells #[Value.int IntKind.i64 0] 3)).alloc (Obj.cells #[Value.int IntKind.i64 0] 27)).alloc (Obj.cells #[Value.string t] 118)) := ⟨by simp [go_sem], by simp [go_sem], by simp⟩
  have r0 : Res w.heap.size 0 0 (((w.alloc (Obj.cells #[Value.int IntKind.i64 0] 3)).alloc (Obj.cells #[Value.int IntKind.i64 0] 27)).alloc (Obj.cells #[Value.string t] 118)) := ⟨by simp [go_sem], by simp [go_sem], by simp [go_sem], by simp [go_sem]⟩
  have b0 : Below w.heap.size w (((w.alloc (Obj.cells #[Value.int IntKind.i64 0] 3)).alloc (Obj.cells #[Value.int IntKind.i64 0] 27)).alloc (Obj.cells #[Value.string t] 118)) := (((Below.refl _ _).alloc (Nat.le_refl _) _).alloc (by simp) _).alloc (by simp; omega) _
  generalize (((w.alloc (Obj.cells #[Value.int IntKind.i64 0] 3)).alloc (Obj.cells #[Value.int IntKind.i64 0] 27)).alloc (Obj.cells #[Value.string t] 118)) = W0 at a0 r0 b0 ⊢
  refine (number_any _ t _ a0).mono ?_
  rintro e w1 (⟨n, hn, rfl, b1⟩ | ⟨hn, rfl, b1⟩)
  · have r1 := r0.step b1
    have HN := Lib.hid (show V = .tuple #[.int .i64 n, .int .i64 0] by rw [← HV.out, hn])
    have b2 := b0.trans (b1.mono (by omega))
    have hcn := r1.cn; have hce := r1.ce; have hfn := r1.fn; have hfe := r1.fe
    clear hn HV r0 a0 b0 b1
    go_wp2
    refine leaves_cons (f := 71) (args := #[.pointer (some ⟨w.heap.size, 0, none⟩), .pointer (some ⟨w.heap.size + 1, 0, none⟩)]) (by simp) (by simp [go_sem]) ?_
    refine (catch_idle w.heap.size _).mono ?_
    rintro e u' w'' ⟨rfl, rfl, rfl⟩
    have r2 := r1.put n 0
    have b3 := put_bel b2 (.int .i64 n) (.int .i64 0)
    generalize (w1.setCell ⟨w.heap.size, 0, none⟩ (.int .i64 n)).setCell ⟨w.heap.size + 1, 0, none⟩ (.int .i64 0) = W2 at r2 b3 ⊢
    rw [HN.out]
    simp [Leaves, settle, results, Tryd.results58, go_sem, r2.cn, r2.ce]
    exact b3
  · have r1 := r0.step b1
    have HN := Lib.hid (show V = pErr by rw [← HV.out, hn])
    have b2 := b0.trans (b1.mono (by omega))
    clear hn HV r0 a0 b0 b1
    go_wp2
    refine leaves_cons (f := 71) (args := #[.pointer (some ⟨w.heap.size, 0, none⟩), .pointer (some ⟨w.heap.size + 1, 0, none⟩)]) (by simp) (by simp [go_sem]) ?_
    refine (catch_panicking w.heap.size 0 0 _ r1).mono ?_
    rintro e u' w'' ⟨rfl, rfl, rfl⟩
    have r2 := r1.put 0 30
    have b3 := put_bel b2 (.int .i64 0) (.int .i64 30)
    generalize (w1.setCell ⟨w.heap.size, 0, none⟩ (.int .i64 0)).setCell ⟨w.heap.size + 1, 0, none⟩ (.int .i64 30) = W2 at r2 b3 ⊢
    rw [HN.out]
    simp [Leaves, settle, results, Tryd.results58, go_sem, r2.cn, r2.ce, pErr]
    exact b3
theorem parse_long (t : ByteArray) (w : World) (hs : t.size < 9223372036854775808) (hs30 : 30 < t.size) :
    Calls Tryd.prog 58 #[.string t] w fun e w' => e = .returned pErr ∧ Below w.heap.size w w' := by
  have hmf : ∀ (fn : Fn) (first cap : Array Value) (w : World), (Instr.makeFunc fn first cap).run Tryd.prog w = .ok (.func fn first cap) w := fun _ _ _ _ => rfl
  have q1 : decide (30 < (t.size : Int)) = true := by simp; omega
  have q2 : decide (30 < t.size) = true := by simp; omega
  go_enter_defers Tryd.func58, Tryd.ntmps58
  go_wp2
  have r0 : Res w.heap.size 0 0 ((w.alloc (Obj.cells #[Value.int IntKind.i64 0] 3)).alloc (Obj.cells #[Value.int IntKind.i64 0] 27)) := ⟨by simp [go_sem], by simp [go_sem], by simp [go_sem], by simp [go_sem]⟩
  have b0 : Below w.heap.size w ((w.alloc (Obj.cells #[Value.int IntKind.i64 0] 3)).alloc (Obj.cells #[Value.int IntKind.i64 0] 27)) := ((Below.refl _ _).alloc (Nat.le_refl _) _).alloc (by simp) _
  generalize ((w.alloc (Obj.cells #[Value.int IntKind.i64 0] 3)).alloc (Obj.cells #[Value.int IntKind.i64 0] 27)) = W0 at r0 b0 ⊢
  refine leaves_cons (f := 71) (args := #[.pointer (some ⟨w.heap.size, 0, none⟩), .pointer (some ⟨w.heap.size + 1, 0, none⟩)]) (by simp) (by simp [go_sem]) ?_
  refine (catch_panicking w.heap.size 0 0 _ r0).mono ?_
  rintro e u' w'' ⟨rfl, rfl, rfl⟩
  have r2 := r0.put 0 30
  have b3 := put_bel b0 (.int .i64 0) (.int .i64 30)
  generalize (W0.setCell ⟨w.heap.size, 0, none⟩ (.int .i64 0)).setCell ⟨w.heap.size + 1, 0, none⟩ (.int .i64 30) = W2 at r2 b3 ⊢
  simp [Leaves, settle, results, Tryd.results58, go_sem, r2.cn, r2.ce, pErr]
  exact b3
theorem parse_any (s : ByteArray) (w : World) (hs : s.size < 9223372036854775808) :
    Calls Tryd.prog 58 #[.string s] w fun e w' => e = .returned (parseV s.data.toList) ∧ Below w.heap.size w w' := by
  have hl := size_list s
  by_cases h : 30 < s.size
  · have e : parseV s.data.toList = pErr := by unfold parseV; rw [if_pos (by rw [hl]; exact h)]
    rw [e]
    exact parse_long s w hs h
  · rw [parseV_L _ (by rw [hl]; exact h)]
    exact parse_walk s w hs (by omega) _ rfl
end Go.Proofs.YtjjklchfcklahaaDoor
