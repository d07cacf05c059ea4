/- The program's own iterator over the sides of a piece: its contract. -/
import Derived.RangeFuncNested
import Derived.RangeFuncBound
import Derived.RangeFuncCalls
import Derived.RangeFuncLeaves
import Derived.RangeFuncFrom
import Derived.Shelf.Abstract
import Derived.Shelf.RegionOpen
import Derived.WalkKit
import Derived.OwnWalkIn
import Derived.TacticsInMore
import Derived.LoopNIn
import Derived.LoopIn
import Derived.Test.YtlgfnhapjhoelaaRef6
namespace Go.Proofs.Ytlgfnhapjhoelaa
open Go.RowKit Go.Shelf
set_option linter.unusedVariables false
set_option linter.unusedSimpArgs false
set_option maxHeartbeats 2000000
set_option maxRecDepth 100000
attribute [local go_sem] Oper.semAt_some

/-- A side of near corners. -/
abbrev Edg := { e : Pnt × Pnt // ((-1073741824 ≤ e.1.1 ∧ e.1.1 ≤ 1073741824) ∧ (-1073741824 ≤ e.1.2 ∧ e.1.2 ≤ 1073741824)) ∧ (-1073741824 ≤ e.2.1 ∧ e.2.1 ≤ 1073741824) ∧ (-1073741824 ≤ e.2.2 ∧ e.2.2 ≤ 1073741824) }
/-- The captured cell stays, and so does all below n₀. -/
def KeepB (B n₀ : Nat) (W W' : World) : Prop := (∀ v, W.cell? ⟨B, 0, none⟩ = some v → W'.cell? ⟨B, 0, none⟩ = some v) ∧ Below n₀ W W'
theorem keepB_t {B n₀ : Nat} {X Y Z : World} (h : KeepB B n₀ X Y) (k : KeepB B n₀ Y Z) : KeepB B n₀ X Z := ⟨fun v e => k.1 v (h.1 v e), h.2.trans k.2⟩
theorem keepB_b {B n₀ : Nat} {w : World} (hn : n₀ ≤ w.heap.size) (W : World) (l : Nat) (o o' : Obj) (hl : w.heap.size ≤ l) (h : W.heap[l]? = some o) (ho : o.isCells = false) (hw : o.isWalk = false) : KeepB B n₀ W (W.putObj l o') :=
  ⟨fun v e => cell_kept e (grownBy_putObj' W l o') (fun r e => by cases e; exact ⟨o, h, ho⟩), belowK_b hn W l o o' hl h ho hw⟩
theorem keepB_below {B n₀ : Nat} {W W' : World} (h : Below W.heap.size W W') (hB : B < W.heap.size) (hn : n₀ ≤ W.heap.size) : KeepB B n₀ W W' :=
  ⟨fun v e => (h.cell (p := ⟨B, 0, none⟩) hB).trans e, h.mono hn⟩

theorem sides1_in (n lp B n₀ : Nat) (hn : 1 ≤ n) (A : Option Addr) (cap : Nat) (l : List Pnt) (hl : l.length < 4611686018427387904) (hn16 : allNear l = true) (J Jx : List Edg → World → Prop)
    (hJd : ∀ s W n, J s W → J s (W.drewN n)) (hJa : ∀ s W o, J s W → J s (W.alloc o))
    (hY : ∀ pre (x : Edg) W, J pre W → pre.length < 4611686018427387904 → YieldAt Fence.wide (n - 1) Try.prog lp #[P2 x.1.1.1 x.1.1.2, P2 x.1.2.1 x.1.2.2] W fun e W' =>
      (e = .returned (.bool true) ∧ J (pre ++ [x]) W' ∧ KeepB B n₀ W W') ∨ (e = .returned (.bool false) ∧ Jx (pre ++ [x]) W'))
    (W : World) (hB : B < W.heap.size) (hn₀ : n₀ ≤ W.heap.size) (c1 : W.cell? ⟨B, 0, none⟩ = some (.slice A l.length cap)) (hr : Cor W n₀ A l) (hJ : J [] W) :
    CallsIn Fence.wide n Try.prog 42 #[.func (.yield lp) #[] #[], .pointer (some ⟨B, 0, none⟩)] W fun e W' => (∃ v, e = .returned v) ∧
      ((∃ ys : List Edg, ys.map Subtype.val = edges l ∧ J ys W') ∨ (∃ pre : List Edg, pre.map Subtype.val <+: edges l ∧ Jx pre W')) := by
  have HR := Lib.hid hr
  have HN := Lib.hid hn16
  clear hr hn16
  obtain ⟨L, hL⟩ : ∃ L, l.length = L := ⟨_, rfl⟩
  rw [hL] at hl c1
  have HL := Lib.hid hL
  clear hL
  refine callsIn_of_wp Try.func42 rfl trivial ?_ rfl
  simp only [Try.ntmps42, List.size_toArray, List.length_cons, List.length_nil, Nat.reduceAdd, Nat.reduceSub, Array.replicate_succ, Array.replicate_zero, List.push_toArray, List.append_toArray, List.nil_append, List.cons_append]
  gi_wp2
  gi_loopw [7] (fun i wr => ∃ k : Nat, k ≤ L ∧ i = .int .i64 k ∧ (∃ pre : List Edg, pre.map Subtype.val = (edges l).take k ∧ J pre wr) ∧ KeepB B n₀ W wr)
    (fun i _ => L - (intOf i).toNat)
  case atStart => exact ⟨0, Nat.zero_le _, rfl, ⟨[], rfl, hJ⟩, ⟨fun _ e => e, Below.refl _ _⟩⟩
  case round =>
    obtain ⟨k, hk, rfl, ⟨pre, hpre, hJs⟩, hnx⟩ := hrel
    by_cases hlt : k < L
    · obtain ⟨j, hj⟩ : ∃ j, (k + 1) % L = j := ⟨_, rfl⟩
      have hjL : j < L := by rw [← hj]; exact Nat.mod_lt _ (by omega)
      obtain ⟨⟨x, y⟩, hp⟩ : ∃ p, l[k]? = some p := ⟨_, List.getElem?_eq_getElem (by rw [HL.out]; exact hlt)⟩
      obtain ⟨⟨u, v⟩, hq⟩ : ∃ p, l[j]? = some p := ⟨_, List.getElem?_eq_getElem (by rw [HL.out]; exact hjL)⟩
      obtain ⟨ad, rfl, hBa, d1, d2⟩ := (HR.out.step hnx.2).at_ hp
      obtain ⟨ad2, e2, _, d3, d4⟩ := (HR.out.step hnx.2).at_ hq
      obtain rfl := Option.some.inj e2
      dsimp only at d1 d2 d3 d4
      have cB := hnx.1 _ c1
      have he := edge_at hp (by rw [HL.out, hj]; exact hq)
      obtain ⟨X, hX⟩ : ∃ X : Edg, X.val = ((x, y), (u, v)) := ⟨⟨((x, y), (u, v)), near_at HN.out hp, near_at HN.out hq⟩, rfl⟩
      have HE := Lib.hid (show (pre ++ [X]).map Subtype.val = (edges l).take (k + 1) by rw [List.map_append, hpre, List.take_add_one, he, List.map_cons, hX]; rfl)
      have HP := Lib.hid (show (pre ++ [X]).map Subtype.val <+: edges l by rw [HE.out]; exact List.take_prefix _ _)
      have hlen : pre.length < 4611686018427387904 := by have := List.length_take_le k (edges l); rw [← hpre, List.length_map] at this; omega
      have e3 := next_num k L hlt hl
      rw [hj] at e3
      have e4 : IntKind.i64.wrap ((k : Int) + 1) = (k : Int) + 1 := IntWalk.i64_in _ (by omega)
      have e5 : IntKind.i64.wrap (j : Int) = (j : Int) := IntWalk.i64_in _ (by omega)
      have e6 : Int.tmod ((k : Int) + 1) (L : Int) = (j : Int) := by rw [← e4]; exact e3
      have q1 : decide ((k : Int) < (L : Int)) = true := by simp; omega
      have q2 : (0 : Int) ≤ (k : Int) := by omega
      have q3 : (k : Int) < (L : Int) := by omega
      have q4 : (0 : Int) ≤ (j : Int) := by omega
      have q5 : (j : Int) < (L : Int) := by omega
      have q6 : ¬ (L : Int) = 0 := by omega
      have q8 : ¬ L = 0 := by omega
      have q7 : ((L : Int) == 0) = false := by simp; omega
      have hz := hnx.2.size
      have hk1 : (ad.add (k * 2)).block < wr.heap.size := by rw [block_add]; omega
      have hk3 : (ad.add (j * 2)).block < wr.heap.size := by rw [block_add]; omega
      have hBw : B < wr.heap.size := by
        rcases Nat.lt_or_ge B wr.heap.size with h | h
        · exact h
        · simp [World.cell?, Array.getElem?_eq_none h] at cB
      clear hpre hp hq he hj e3
      have HX := Lib.hid hX
      clear hX
      have hmx : Try.prog.follows .mixedOrders = true := by kernel_rfl
      obtain ⟨W1, hW1⟩ : ∃ W1, wr.alloc (.cells #[.int .i64 x, .int .i64 y] 24) = W1 := ⟨_, rfl⟩
      gi_wp2
      have g0 : ∀ (a : Addr) (v : Value), a.block < wr.heap.size → wr.cell? a = some v → W1.cell? a = some v := fun a v h e => by rw [← hW1]; exact ((Below.refl wr.heap.size wr).alloc (Nat.le_refl _) _ |>.cell h).trans e
      have f1 := g0 _ _ hk1 d1
      have f2 := g0 ⟨(ad.add (k * 2)).block, (ad.add (k * 2)).off + 1, none⟩ _ hk1 d2
      have f3 := g0 _ _ hk3 d3
      have f4 := g0 ⟨(ad.add (j * 2)).block, (ad.add (j * 2)).off + 1, none⟩ _ hk3 d4
      have fB := g0 ⟨B, 0, none⟩ _ hBw cB
      have fa : W1.cell? ⟨wr.heap.size, 0, none⟩ = some (.int .i64 x) := by rw [← hW1]; simp
      have fb : W1.cell? ⟨wr.heap.size, 1, none⟩ = some (.int .i64 y) := by rw [← hW1]; simp
      have hk1 : KeepB B n₀ W W1.drew := keepB_t hnx (keepB_below (by rw [← hW1]; exact ((Below.refl _ _).alloc (Nat.le_refl _) _).drew) hBw (by omega))
      have hJ1 : J pre W1.drew := hJd _ _ 1 (by rw [← hW1]; exact hJa _ _ _ hJs)
      clear g0 d1 d2 d3 d4 cB hW1 hJs
      obtain ⟨fn, tmps, assign, body, hy, hR⟩ := hY pre X W1.drew hJ1 hlen
      have hR1 := hR.mono (R' := fun e W' => ∃ b, e = .returned (.bool b) ∧ ((b = true ∧ J (pre ++ [X]) W' ∧ KeepB B n₀ W1.drew W') ∨ (b = false ∧ Jx (pre ++ [X]) W'))) (by
        rintro e W' (⟨rfl, h⟩ | ⟨rfl, h⟩)
        · exact ⟨true, rfl, .inl ⟨rfl, h⟩⟩
        · exact ⟨false, rfl, .inr ⟨rfl, h⟩⟩)
      clear hR
      rw [HX.out] at hy
      dsimp only at hy
      gi_region_with_o (refine hR1.mono ?_; rintro e W3 ⟨b, rfl, hb⟩)
      all_goals
        rcases hb with ⟨rfl, hJ3, hk3⟩ | ⟨rfl, hJx3⟩
        · have hkW := keepB_t hk1 hk3
          gi_wp2
          go_roundw
          case rel => exact ⟨k + 1, by omega, by go_num, ⟨_, HE.out, hJ3⟩, hkW⟩
          case measure => simp [intOf]; omega
        · gi_wp2
          refine bodyPost_ret (results_none rfl _ _ _) rfl ?_
          exact ⟨⟨_, rfl⟩, .inr ⟨_, HP.out, hJx3⟩⟩
    · have hkL : k = L := by omega
      have q1 : decide ((k : Int) < (L : Int)) = false := by simp; omega
      rw [List.take_of_length_le (by rw [edges_len, HL.out]; omega)] at hpre
      have HE := Lib.hid hpre
      clear hpre
      gi_wp2
      go_end0
      exact ⟨⟨_, rfl⟩, .inl ⟨_, HE.out, hJs⟩⟩

theorem sides_in (n : Nat) (A : Option Addr) (L cap : Nat) (w : World) :
    CallsIn Fence.wide n Try.prog 29 #[.slice A L cap] w fun e w' => e = .returned (.func (.func 42) #[] #[.pointer (some ⟨w.heap.size, 0, none⟩)]) ∧ w' = w.alloc (.cells #[.slice A L cap] 27) := by
  refine callsIn_of_wp Try.func29 rfl trivial ?_ rfl
  simp only [Try.ntmps29, List.size_toArray, List.length_cons, List.length_nil, Nat.reduceAdd, Nat.reduceSub, Array.replicate_succ, Array.replicate_zero, List.push_toArray, List.append_toArray, List.nil_append, List.cons_append]
  gi_wp2
  go_ret
  exact ⟨rfl, rfl⟩

/-- The sides of a piece come in their order: all, or up to one at which the body has stopped. -/
theorem sides_stops (n B n₀ : Nat) (hn : 1 ≤ n) (A : Option Addr) (cap : Nat) (l : List Pnt) (hl : l.length < 4611686018427387904) (hn16 : allNear l = true) (w : World) (hB : B < w.heap.size) (hn₀ : n₀ ≤ w.heap.size)
    (c1 : w.cell? ⟨B, 0, none⟩ = some (.slice A l.length cap)) (hr : Cor w n₀ A l) :
    SeqStopsK Fence.wide n Try.prog 42 #[.pointer (some ⟨B, 0, none⟩)] (fun x : Edg => #[P2 x.1.1.1 x.1.1.2, P2 x.1.2.1 x.1.2.2]) (KeepB B n₀) (fun ys => ys.map Subtype.val = edges l) (fun pre => pre.map Subtype.val <+: edges l) 4611686018427387904 w := fun lp J Jx W hW hJ hJx hY h00 =>
  sides1_in n lp B n₀ hn A cap l hl hn16 J Jx (fun s W n hs => hJ s W _ none hs ⟨rfl, rfl, rfl, Nat.le_refl _, fun _ _ _ => rfl⟩ (fun r e => by cases e)) (fun s W o hs => hJ s W _ none hs (World.grownBy_alloc W o none) (fun r e => by cases e))
    hY W (Nat.lt_of_lt_of_le hB hW.size) (Nat.le_trans hn₀ hW.size) ((hW.cell (p := ⟨B, 0, none⟩) hB).trans c1) (hr.step (hW.mono hn₀)) h00
end Go.Proofs.Ytlgfnhapjhoelaa
