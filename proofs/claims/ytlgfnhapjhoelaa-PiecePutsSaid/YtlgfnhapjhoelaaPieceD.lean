/- What the program's own pieces answer: Box. -/
import Derived.Test.YtlgfnhapjhoelaaPieceB
import Derived.Test.YtlgfnhapjhoelaaRef6C
namespace Go.Proofs.Ytlgfnhapjhoelaa
open Go.RowKit
set_option linter.unusedVariables false
set_option linter.unusedSimpArgs false
set_option maxHeartbeats 4000000
set_option maxRecDepth 100000

/-- The two results of Box at blocks g and g + 1, its two points at p and q. -/
structure BY (g p q : Nat) (a b c d : Int) (w x : World) : Prop where
  z0 : x.cell? ⟨g, 0, none⟩ = some (.int .i64 0)
  z1 : x.cell? ⟨g, 1, none⟩ = some (.int .i64 0)
  z2 : x.cell? ⟨g + 1, 0, none⟩ = some (.int .i64 0)
  z3 : x.cell? ⟨g + 1, 1, none⟩ = some (.int .i64 0)
  l0 : x.cell? ⟨p, 0, none⟩ = some (.int .i64 a)
  l1 : x.cell? ⟨p, 1, none⟩ = some (.int .i64 b)
  h0 : x.cell? ⟨q, 0, none⟩ = some (.int .i64 c)
  h1 : x.cell? ⟨q, 1, none⟩ = some (.int .i64 d)
  fz : ∀ j, x.frozen? ⟨g, j, none⟩ = false ∧ x.frozen? ⟨g + 1, j, none⟩ = false ∧ x.frozen? ⟨p, j, none⟩ = false ∧ x.frozen? ⟨q, j, none⟩ = false
  sz : p < x.heap.size ∧ q < x.heap.size
  bel : Below g w x
  pq : p ≠ q ∧ g + 1 + 1 ≤ p ∧ g + 1 + 1 ≤ q
theorem set2 {x : World} {B : Nat} {u v u' v' : Value} (h0 : x.cell? ⟨B, 0, none⟩ = some u) (h1 : x.cell? ⟨B, 1, none⟩ = some v) :
    ((x.setCell ⟨B, 0, none⟩ u').setCell ⟨B, 1, none⟩ v').cell? ⟨B, 0, none⟩ = some u' ∧ ((x.setCell ⟨B, 0, none⟩ u').setCell ⟨B, 1, none⟩ v').cell? ⟨B, 1, none⟩ = some v' ∧
    (∀ (b o : Nat) (z : Value), b ≠ B → x.cell? ⟨b, o, none⟩ = some z → ((x.setCell ⟨B, 0, none⟩ u').setCell ⟨B, 1, none⟩ v').cell? ⟨b, o, none⟩ = some z) ∧
    (∀ a, ((x.setCell ⟨B, 0, none⟩ u').setCell ⟨B, 1, none⟩ v').frozen? a = x.frozen? a) ∧ ((x.setCell ⟨B, 0, none⟩ u').setCell ⟨B, 1, none⟩ v').heap.size = x.heap.size := by
  refine ⟨?_, World.cell?_setCell_same _ _ _ ((World.cell?_setCell_other _ _ _ _ (by simp)).trans h1), fun b o z hb hz => ?_, fun a => by simp only [World.frozen?_setCell], by simp [World.setCell]⟩
  · rw [World.cell?_setCell_other _ _ _ _ (by simp)]; exact World.cell?_setCell_same _ _ _ h0
  · exact (cell_far _ _ _ _ (fun e => hb e.symm)).trans ((cell_far _ _ _ _ (fun e => hb e.symm)).trans hz)
theorem BY.lo {g p q : Nat} {a b c d : Int} {w x : World} (h : BY g p q a b c d w x) (a' b' : Int) : BY g p q a' b' c d w ((x.setCell ⟨p, 0, none⟩ (.int .i64 a')).setCell ⟨p, 1, none⟩ (.int .i64 b')) := by
  obtain ⟨h1, h2, h3⟩ := h.pq
  obtain ⟨s1, s2, so, sf, ss⟩ := set2 (u' := .int .i64 a') (v' := .int .i64 b') h.l0 h.l1
  exact ⟨so _ _ _ (by omega) h.z0, so _ _ _ (by omega) h.z1, so _ _ _ (by omega) h.z2, so _ _ _ (by omega) h.z3, s1, s2, so _ _ _ (by omega) h.h0, so _ _ _ (by omega) h.h1, fun j => by simp only [sf]; exact h.fz j, by rw [ss]; exact h.sz,
    Below.setCell (p := ⟨p, 1, none⟩) (Below.setCell (p := ⟨p, 0, none⟩) h.bel (by dsimp only; omega) _) (by dsimp only; omega) _, h.pq⟩
theorem BY.hi {g p q : Nat} {a b c d : Int} {w x : World} (h : BY g p q a b c d w x) (a' b' : Int) : BY g p q a b a' b' w ((x.setCell ⟨q, 0, none⟩ (.int .i64 a')).setCell ⟨q, 1, none⟩ (.int .i64 b')) := by
  obtain ⟨h1, h2, h3⟩ := h.pq
  obtain ⟨s1, s2, so, sf, ss⟩ := set2 (u' := .int .i64 a') (v' := .int .i64 b') h.h0 h.h1
  exact ⟨so _ _ _ (by omega) h.z0, so _ _ _ (by omega) h.z1, so _ _ _ (by omega) h.z2, so _ _ _ (by omega) h.z3, so _ _ _ (by omega) h.l0, so _ _ _ (by omega) h.l1, s1, s2, fun j => by simp only [sf]; exact h.fz j, by rw [ss]; exact h.sz,
    Below.setCell (p := ⟨q, 1, none⟩) (Below.setCell (p := ⟨q, 0, none⟩) h.bel (by dsimp only; omega) _) (by dsimp only; omega) _, h.pq⟩
theorem BY.after {g p q : Nat} {a b c d : Int} {w x y : World} (h : BY g p q a b c d w x) (hb : Below x.heap.size x y) : BY g p q a b c d w y := by
  have hg : g + 1 < x.heap.size := by have := h.sz; have := h.pq; omega
  have o : ∀ (b o : Nat) (z : Value), b < x.heap.size → x.cell? ⟨b, o, none⟩ = some z → y.cell? ⟨b, o, none⟩ = some z := fun b o z hb' e => (hb.cell (p := ⟨b, o, none⟩) hb').trans e
  have f : ∀ (b o : Nat), b < x.heap.size → x.frozen? ⟨b, o, none⟩ = false → y.frozen? ⟨b, o, none⟩ = false := fun b o hb' e => (hb.frozen (p := ⟨b, o, none⟩) hb').trans e
  exact ⟨o _ _ _ (by omega) h.z0, o _ _ _ (by omega) h.z1, o _ _ _ hg h.z2, o _ _ _ hg h.z3, o _ _ _ h.sz.1 h.l0, o _ _ _ h.sz.1 h.l1, o _ _ _ h.sz.2 h.h0, o _ _ _ h.sz.2 h.h1,
    fun j => ⟨f _ _ (by omega) (h.fz j).1, f _ _ hg (h.fz j).2.1, f _ _ h.sz.1 (h.fz j).2.2.1, f _ _ h.sz.2 (h.fz j).2.2.2⟩, ⟨Nat.lt_of_lt_of_le h.sz.1 hb.size, Nat.lt_of_lt_of_le h.sz.2 hb.size⟩, h.bel.trans (hb.mono (by omega)), h.pq⟩

theorem pbox_any (A : Option Addr) (cap : Nat) (l : List Pnt) (w : World) (hr : Cor w w.heap.size A l) (hl : l.length ≤ 16) (hn : allNear l = true) :
    Calls Try.prog 11 #[.slice A l.length cap] w fun e w' => e = .returned (boxV l) ∧ Below w.heap.size w w' := by
  clear hn
  cases l with
  | nil =>
    go_enter Try.func11, Try.ntmps11
    go_wp2
    refine bodyPost_ret (by simp [results, Try.results11, go_sem] <;> rfl) rfl ⟨rfl, ?_⟩
    repeat (first | exact Below.refl _ _ | refine Below.setCell ?_ (by simp; try omega) _ | refine Below.alloc ?_ (by simp; try omega) _ | refine below_dN ?_ _)
  | cons p0 t =>
    obtain ⟨l, hll⟩ : ∃ l, p0 :: t = l := ⟨_, rfl⟩
    have hp0 : l[0]? = some p0 := by rw [← hll]; rfl
    have FB := Lib.hid (show boxV (p0 :: t) = .tuple #[P2 (box4 p0 l).1 (box4 p0 l).2.1, P2 (box4 p0 l).2.2.1 (box4 p0 l).2.2.2] by rw [← hll]; rfl)
    have hpos : 0 < l.length := by rw [← hll]; simp
    rw [FB.out]
    rw [hll] at hr hl ⊢
    obtain ⟨x0, y0⟩ := p0
    have HR := Lib.hid hr
    obtain ⟨ad, rfl, hB, c1, c2⟩ := hr.at_ hp0
    dsimp only at c1 c2
    clear hr hll FB
    obtain ⟨L, hL⟩ : ∃ L, l.length = L := ⟨_, rfl⟩
    rw [hL] at hl hpos ⊢
    have HL := Lib.hid hL
    clear hL hp0
    have a0 : ad.add 0 = ad := rfl
    rw [Nat.zero_mul, a0] at c1 c2
    have q0 : ((L : Int) == 0) = false := by simp; omega
    have q1 : (0 : Int) < (L : Int) := by omega
    have old : ∀ (p : Addr) (u : Value) (W : World) (o : Obj), w.heap.size ≤ W.heap.size → p.block = ad.block → W.cell? p = some u → (W.alloc o).cell? p = some u := fun p u W o hs hp hu => by
      rw [World.cell?_alloc_old _ _ _ (by omega)]; exact hu
    have k1 : ∀ o1 o2, ((w.alloc o1).alloc o2).cell? ad = some (.int .i64 x0) := fun o1 o2 => old _ _ _ _ (by simp) rfl (old _ _ _ _ (Nat.le_refl _) rfl c1)
    have k2 : ∀ o1 o2, ((w.alloc o1).alloc o2).cell? ⟨ad.block, ad.off + 1, none⟩ = some (.int .i64 y0) := fun o1 o2 => old _ _ _ _ (by simp) rfl (old _ _ _ _ (Nat.le_refl _) rfl c2)
    have m1 : ∀ o1 o2 o3, (((w.alloc o1).alloc o2).alloc o3).cell? ad = some (.int .i64 x0) := fun o1 o2 o3 => old _ _ _ _ (by simp; omega) rfl (k1 o1 o2)
    have m2 : ∀ o1 o2 o3, (((w.alloc o1).alloc o2).alloc o3).cell? ⟨ad.block, ad.off + 1, none⟩ = some (.int .i64 y0) := fun o1 o2 o3 => old _ _ _ _ (by simp; omega) rfl (k2 o1 o2)
    have n1 : ∀ o1 o2 o3 o4, ((((w.alloc o1).alloc o2).alloc o3).alloc o4).cell? ad = some (.int .i64 x0) := fun o1 o2 o3 o4 => old _ _ _ _ (by simp; omega) rfl (m1 o1 o2 o3)
    have n2 : ∀ o1 o2 o3 o4, ((((w.alloc o1).alloc o2).alloc o3).alloc o4).cell? ⟨ad.block, ad.off + 1, none⟩ = some (.int .i64 y0) := fun o1 o2 o3 o4 => old _ _ _ _ (by simp; omega) rfl (m2 o1 o2 o3)
    clear old
    go_enter Try.func11, Try.ntmps11
    go_wp2_with fail
    go_cut [4, 5] (fun s4 s5 wx => ∃ p q : Nat, s4 = .pointer (some ⟨p, 0, none⟩) ∧ s5 = .pointer (some ⟨q, 0, none⟩) ∧ BY w.heap.size p q x0 y0 x0 y0 w wx)
    case first =>
      go_region
      all_goals
        clear k1 k2 m1 m2 n1 n2 c1 c2
        go_wp2_with fail
        go_meet
        refine ⟨_, _, rfl, rfl, ⟨by simp [go_sem], by simp [go_sem], by simp [go_sem], by simp [go_sem], by simp [go_sem], by simp [go_sem], by simp [go_sem], by simp [go_sem], fun j => ⟨by simp [go_sem], by simp [go_sem], by simp [go_sem], by simp [go_sem]⟩, by simp; try omega, ?_, by omega⟩⟩
        repeat (first | exact Below.refl _ _ | refine Below.drew ?_ | refine Below.setCell ?_ (by simp; try omega) _ | refine Below.alloc ?_ (by simp; try omega) _ | refine below_dN ?_ _)
    case rest =>
      clear k1 k2 m1 m2 n1 n2 c1 c2
      obtain ⟨p, q, rfl, rfl, hX0⟩ := hcut
      go_wp2
      go_loopw [21] (fun s wr => ∃ (k : Nat) (B4 : Int × Int × Int × Int), s = .int .i64 k ∧ k ≤ L ∧ box4 (x0, y0) (l.take k) = B4 ∧ BY w.heap.size p q B4.1 B4.2.1 B4.2.2.1 B4.2.2.2 w wr) (fun s _ => L - (intOf s).toNat)
      case atStart => exact ⟨0, (x0, y0, x0, y0), rfl, Nat.zero_le _, rfl, hX0⟩
      case round =>
        clear hX0
        obtain ⟨k, ⟨lx, ly, hx, hy⟩, rfl, hk, hb4, hX⟩ := hrel
        dsimp only at hX
        by_cases hlt : k < L
        · obtain ⟨⟨a, b⟩, hp⟩ : ∃ p, l[k]? = some p := ⟨_, List.getElem?_eq_getElem (by rw [HL.out]; exact hlt)⟩
          obtain ⟨ad2, e2, _, c1, c2⟩ := (HR.out.step hX.bel).at_ hp
          obtain rfl := Option.some.inj e2
          dsimp only at c1 c2
          have hst := box4_step (x0, y0) hp
          rw [hb4] at hst
          dsimp only at hst
          obtain ⟨m1, hm1⟩ : ∃ m, mnA lx a = m := ⟨_, rfl⟩
          obtain ⟨m2, hm2⟩ : ∃ m, mnA ly b = m := ⟨_, rfl⟩
          obtain ⟨m3, hm3⟩ : ∃ m, mxA hx a = m := ⟨_, rfl⟩
          obtain ⟨m4, hm4⟩ : ∃ m, mxA hy b = m := ⟨_, rfl⟩
          rw [hm1, hm2, hm3, hm4] at hst
          have e3 : (if a < lx then a else lx) = m1 := hm1
          have e4 : (if b < ly then b else ly) = m2 := hm2
          have e5 : (if hx < a then a else hx) = m3 := hm3
          have e6 : (if hy < b then b else hy) = m4 := hm4
          have g3 : min lx a = m1 := by rw [← e3, Int.min_def]; split <;> split <;> omega
          have g4 : min ly b = m2 := by rw [← e4, Int.min_def]; split <;> split <;> omega
          have g5 : max hx a = m3 := by rw [← e5, Int.max_def]; split <;> split <;> omega
          have g6 : max hy b = m4 := by rw [← e6, Int.max_def]; split <;> split <;> omega
          have HST := Lib.hid hst
          have q2 : decide ((k : Int) < (L : Int)) = true := by simp; omega
          have q3 : (0 : Int) ≤ (k : Int) := by omega
          have q4 : (k : Int) < (L : Int) := by omega
          have q5 : IntKind.i64.wrap ((k : Int) + 1) = (k : Int) + 1 := IntWalk.i64_in _ (by omega)
          have hBk : (ad.add (k * 2)).block < w.heap.size := by rw [block_add]; exact hB
          clear hp hst hb4 hm1 hm2 hm3 hm4
          go_upto_region 7 with fail
          have hsz2 := hX.sz
          refine any_gen (fun z => BY w.heap.size p q lx ly hx hy w z ∧ z.cell? ⟨wr.heap.size, 0, none⟩ = some (.int .i64 a) ∧ z.cell? ⟨wr.heap.size, 1, none⟩ = some (.int .i64 b)) ⟨hX.after ((Below.refl _ _).alloc (Nat.le_refl _) _), (PtAt.new wr (a, b)).cell1, (PtAt.new wr (a, b)).cell2⟩ ?_
          clear hX c1 c2
          rintro wz ⟨kz, c1, c2⟩
          have d1 := kz.l0; have d2 := kz.l1; have f1 := (kz.fz 0).2.2.1; have f2 := (kz.fz 1).2.2.1
          go_upto_region 8 with fail
          have ks := kz.lo m1 m2
          obtain ⟨-, -, so, -, -⟩ := set2 (u' := .int .i64 m1) (v' := .int .i64 m2) d1 d2
          refine any_gen (fun z => BY w.heap.size p q m1 m2 hx hy w z ∧ z.cell? ⟨wr.heap.size, 0, none⟩ = some (.int .i64 a) ∧ z.cell? ⟨wr.heap.size, 1, none⟩ = some (.int .i64 b)) ⟨ks, so _ _ _ (by omega) c1, so _ _ _ (by omega) c2⟩ ?_
          clear kz c1 c2 d1 d2 f1 f2 so ks
          rintro wz2 ⟨kz, c1, c2⟩
          have d1 := kz.h0; have d2 := kz.h1; have f1 := (kz.fz 0).2.2.2; have f2 := (kz.fz 1).2.2.2
          have kv := kz.hi m3 m4
          clear e3 e4 g3 g4
          go_wp2
          go_roundw
          case rel => exact ⟨k + 1, (m1, m2, m3, m4), by go_num, by omega, HST.out, kv⟩
          case measure => simp [intOf]; omega
        · have hkL : k = L := by omega
          have q2 : decide ((k : Int) < (L : Int)) = false := by simp; omega
          have F := Lib.hid (show box4 (x0, y0) l = (lx, ly, hx, hy) by rw [← hb4, hkL, ← HL.out, List.take_length])
          have z0 := hX.z0; have z1 := hX.z1; have z2 := hX.z2; have z3 := hX.z3; have l0 := hX.l0; have l1 := hX.l1; have h0 := hX.h0; have h1 := hX.h1
          have f0 := (hX.fz 0).1; have f1 := (hX.fz 1).1; have f2 := (hX.fz 0).2.1; have f3 := (hX.fz 1).2.1
          have hbl := hX.bel
          have hpq := hX.pq
          have n1 : p ≠ w.heap.size := by omega
          have n2 : p ≠ w.heap.size + 1 := by omega
          have n3 : q ≠ w.heap.size := by omega
          have n4 : q ≠ w.heap.size + 1 := by omega
          clear hb4 hX
          go_upto_region 10 with fail
          go_region
          all_goals
            go_wp2
            rw [F.out]
            refine bodyPost_ret (by simp [results, Try.results11, go_sem, *] <;> rfl) rfl ⟨rfl, ?_⟩
            repeat (first | exact hbl | refine Below.drew ?_ | refine Below.setCell ?_ (by simp; try omega) _ | refine below_dN ?_ _)
end Go.Proofs.Ytlgfnhapjhoelaa
