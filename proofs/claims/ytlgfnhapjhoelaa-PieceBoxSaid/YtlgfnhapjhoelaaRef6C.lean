/- What the document's own layer 6 answers of corners: Box. -/
import Derived.Test.YtlgfnhapjhoelaaCorn
import Derived.Test.YtlgfnhapjhoelaaBoxNum
namespace Go.Proofs.Ytlgfnhapjhoelaa
open Go.RowKit
set_option linter.unusedVariables false
set_option linter.unusedSimpArgs false
set_option maxHeartbeats 8000000
set_option maxRecDepth 100000

def boxV (l : List Pnt) : Value := match l with
  | [] => .tuple #[P2 0 0, P2 0 0]
  | p :: t => .tuple #[P2 (box4 p (p :: t)).1 (box4 p (p :: t)).2.1, P2 (box4 p (p :: t)).2.2.1 (box4 p (p :: t)).2.2.2]
/-- The two results and the two points of Box, at blocks g to g + 3. -/
structure BX (g : Nat) (a b c d : Int) (w x : World) : Prop where
  z0 : x.cell? ⟨g, 0, none⟩ = some (.int .i64 0)
  z1 : x.cell? ⟨g, 1, none⟩ = some (.int .i64 0)
  z2 : x.cell? ⟨g + 1, 0, none⟩ = some (.int .i64 0)
  z3 : x.cell? ⟨g + 1, 1, none⟩ = some (.int .i64 0)
  l0 : x.cell? ⟨g + 1 + 1, 0, none⟩ = some (.int .i64 a)
  l1 : x.cell? ⟨g + 1 + 1, 1, none⟩ = some (.int .i64 b)
  h0 : x.cell? ⟨g + 1 + 1 + 1, 0, none⟩ = some (.int .i64 c)
  h1 : x.cell? ⟨g + 1 + 1 + 1, 1, none⟩ = some (.int .i64 d)
  fz : ∀ j, x.frozen? ⟨g, j, none⟩ = false ∧ x.frozen? ⟨g + 1, j, none⟩ = false ∧ x.frozen? ⟨g + 1 + 1, j, none⟩ = false ∧ x.frozen? ⟨g + 1 + 1 + 1, j, none⟩ = false
  sz : g + 1 + 1 + 1 + 1 ≤ x.heap.size
  bel : Below g w x
theorem BX.lo {g : Nat} {a b c d : Int} {w x : World} (h : BX g a b c d w x) (a' b' : Int) : BX g a' b' c d w ((x.setCell ⟨g + 1 + 1, 0, none⟩ (.int .i64 a')).setCell ⟨g + 1 + 1, 1, none⟩ (.int .i64 b')) := by
  have o : ∀ (p : Addr) (u : Value), (p ≠ ⟨g + 1 + 1, 0, none⟩) → (p ≠ ⟨g + 1 + 1, 1, none⟩) → x.cell? p = some u → ((x.setCell ⟨g + 1 + 1, 0, none⟩ (.int .i64 a')).setCell ⟨g + 1 + 1, 1, none⟩ (.int .i64 b')).cell? p = some u := fun p u n0 n1 hu => by
    rw [World.cell?_setCell_other _ _ _ _ (fun k => n1 k.symm), World.cell?_setCell_other _ _ _ _ (fun k => n0 k.symm)]; exact hu
  refine ⟨o _ _ (by simp) (by simp) h.z0, o _ _ (by simp) (by simp) h.z1, o _ _ (by simp) (by simp) h.z2, o _ _ (by simp) (by simp) h.z3, ?_, World.cell?_setCell_same _ _ _ ((World.cell?_setCell_other _ _ _ _ (by simp)).trans h.l1),
    o _ _ (by simp) (by simp) h.h0, o _ _ (by simp) (by simp) h.h1, fun j => by simp only [World.frozen?_setCell]; exact h.fz j, by simpa [World.setCell] using h.sz,
    Below.setCell (p := ⟨g + 1 + 1, 1, none⟩) (Below.setCell (p := ⟨g + 1 + 1, 0, none⟩) h.bel (by dsimp only; omega) _) (by dsimp only; omega) _⟩
  rw [World.cell?_setCell_other _ _ _ _ (by simp)]
  exact World.cell?_setCell_same _ _ _ h.l0
theorem BX.hi {g : Nat} {a b c d : Int} {w x : World} (h : BX g a b c d w x) (a' b' : Int) : BX g a b a' b' w ((x.setCell ⟨g + 1 + 1 + 1, 0, none⟩ (.int .i64 a')).setCell ⟨g + 1 + 1 + 1, 1, none⟩ (.int .i64 b')) := by
  have o : ∀ (p : Addr) (u : Value), (p ≠ ⟨g + 1 + 1 + 1, 0, none⟩) → (p ≠ ⟨g + 1 + 1 + 1, 1, none⟩) → x.cell? p = some u → ((x.setCell ⟨g + 1 + 1 + 1, 0, none⟩ (.int .i64 a')).setCell ⟨g + 1 + 1 + 1, 1, none⟩ (.int .i64 b')).cell? p = some u := fun p u n0 n1 hu => by
    rw [World.cell?_setCell_other _ _ _ _ (fun k => n1 k.symm), World.cell?_setCell_other _ _ _ _ (fun k => n0 k.symm)]; exact hu
  refine ⟨o _ _ (by simp) (by simp) h.z0, o _ _ (by simp) (by simp) h.z1, o _ _ (by simp) (by simp) h.z2, o _ _ (by simp) (by simp) h.z3, o _ _ (by simp) (by simp) h.l0, o _ _ (by simp) (by simp) h.l1, ?_, World.cell?_setCell_same _ _ _ ((World.cell?_setCell_other _ _ _ _ (by simp)).trans h.h1),
    fun j => by simp only [World.frozen?_setCell]; exact h.fz j, by simpa [World.setCell] using h.sz,
    Below.setCell (p := ⟨g + 1 + 1 + 1, 1, none⟩) (Below.setCell (p := ⟨g + 1 + 1 + 1, 0, none⟩) h.bel (by dsimp only; omega) _) (by dsimp only; omega) _⟩
  rw [World.cell?_setCell_other _ _ _ _ (by simp)]
  exact World.cell?_setCell_same _ _ _ h.h0
theorem BX.drew {g : Nat} {a b c d : Int} {w x : World} (h : BX g a b c d w x) : BX g a b c d w x.drew := ⟨h.z0, h.z1, h.z2, h.z3, h.l0, h.l1, h.h0, h.h1, h.fz, h.sz, h.bel.drew⟩

theorem r6box_any (A : Option Addr) (cap : Nat) (l : List Pnt) (w : World) (hr : Cor w w.heap.size A l) (hl : l.length < 4611686018427387904) :
    Calls Try.prog 12 #[.slice A l.length cap] w fun e w' => e = .returned (boxV l) ∧ Below w.heap.size w w' := by
  cases l with
  | nil =>
    go_enter Try.func12, Try.ntmps12
    go_wp2
    refine bodyPost_ret (by simp [results, Try.results12, go_sem] <;> rfl) rfl ⟨rfl, ?_⟩
    repeat (first | exact Below.refl _ _ | refine Below.setCell ?_ (by simp; try omega) _ | refine Below.alloc ?_ (by simp; try omega) _ | refine below_dN ?_ _)
  | cons p0 t =>
    obtain ⟨l, hll⟩ : ∃ l, p0 :: t = l := ⟨_, rfl⟩
    have hp0 : l[0]? = some p0 := by rw [← hll]; rfl
    have FB := Lib.hid (show boxV (p0 :: t) = .tuple #[P2 (box4 p0 l).1 (box4 p0 l).2.1, P2 (box4 p0 l).2.2.1 (box4 p0 l).2.2.2] by rw [← hll]; rfl)
    have hpos : 0 < l.length := by rw [← hll]; simp
    rw [FB.out]
    rw [hll] at hr hl ⊢
    obtain ⟨x0, y0⟩ := p0
    have HR := Lib.hid hr
    obtain ⟨ad, rfl, hB, c1, c2⟩ := hr.at_ hp0
    dsimp only at c1 c2
    clear hr hll FB
    obtain ⟨L, hL⟩ : ∃ L, l.length = L := ⟨_, rfl⟩
    rw [hL] at hl hpos ⊢
    have HL := Lib.hid hL
    clear hL hp0
    have a0 : ad.add 0 = ad := rfl
    rw [Nat.zero_mul, a0] at c1 c2
    have q0 : ((L : Int) == 0) = false := by simp; omega
    have q1 : (0 : Int) < (L : Int) := by omega
    have old3 : ∀ (p : Addr) (u : Value) (o1 o2 o3 : Obj), p.block = ad.block → w.cell? p = some u → (((w.alloc o1).alloc o2).alloc o3).cell? p = some u := fun p u o1 o2 o3 hp hu => by
      rw [World.cell?_alloc_old _ _ _ (by simp; omega), World.cell?_alloc_old _ _ _ (by simp; omega), World.cell?_alloc_old _ _ _ (by omega)]; exact hu
    have k1 : ∀ o1 o2 o3, (((w.alloc o1).alloc o2).alloc o3).cell? ad = some (.int .i64 x0) := fun o1 o2 o3 => old3 _ _ _ _ _ rfl c1
    have k2 : ∀ o1 o2 o3, (((w.alloc o1).alloc o2).alloc o3).cell? ⟨ad.block, ad.off + 1, none⟩ = some (.int .i64 y0) := fun o1 o2 o3 => old3 _ _ _ _ _ rfl c2
    go_enter Try.func12, Try.ntmps12
    go_wp2
    clear k1 k2 old3 c1 c2
    go_loopw [6] (fun s6 wr => ∃ (k : Nat) (B4 : Int × Int × Int × Int), s6 = .int .i64 k ∧ k ≤ L ∧ box4 (x0, y0) (l.take k) = B4 ∧ BX w.heap.size B4.1 B4.2.1 B4.2.2.1 B4.2.2.2 w wr) (fun s6 _ => L - (intOf s6).toNat)
    case atStart =>
      exact ⟨0, (x0, y0, x0, y0), rfl, Nat.zero_le _, rfl, ⟨by simp [go_sem], by simp [go_sem], by simp [go_sem], by simp [go_sem], by simp [go_sem], by simp [go_sem], by simp [go_sem], by simp [go_sem], fun j => ⟨by simp [go_sem], by simp [go_sem], by simp [go_sem], by simp [go_sem]⟩, by simp, by repeat (first | exact Below.refl _ _ | refine Below.setCell ?_ (by simp; try omega) _ | refine Below.alloc ?_ (by simp; try omega) _ | refine below_dN ?_ _)⟩⟩
    case round =>
      obtain ⟨k, ⟨lx, ly, hx, hy⟩, rfl, hk, hb4, hX⟩ := hrel
      dsimp only at hX
      by_cases hlt : k < L
      · obtain ⟨⟨a, b⟩, hp⟩ : ∃ p, l[k]? = some p := ⟨_, List.getElem?_eq_getElem (by rw [HL.out]; exact hlt)⟩
        obtain ⟨ad2, e2, _, c1, c2⟩ := (HR.out.step hX.bel).at_ hp
        obtain rfl := Option.some.inj e2
        dsimp only at c1 c2
        have hst := box4_step (x0, y0) hp
        rw [hb4] at hst
        dsimp only at hst
        obtain ⟨m1, hm1⟩ : ∃ m, mnA lx a = m := ⟨_, rfl⟩
        obtain ⟨m2, hm2⟩ : ∃ m, mnA ly b = m := ⟨_, rfl⟩
        obtain ⟨m3, hm3⟩ : ∃ m, mxA hx a = m := ⟨_, rfl⟩
        obtain ⟨m4, hm4⟩ : ∃ m, mxA hy b = m := ⟨_, rfl⟩
        rw [hm1, hm2, hm3, hm4] at hst
        have e3 : (if a < lx then a else lx) = m1 := hm1
        have e4 : (if b < ly then b else ly) = m2 := hm2
        have e5 : (if hx < a then a else hx) = m3 := hm3
        have e6 : (if hy < b then b else hy) = m4 := hm4
        have HST := Lib.hid hst
        have q2 : decide ((k : Int) < (L : Int)) = true := by simp; omega
        have q3 : (0 : Int) ≤ (k : Int) := by omega
        have q4 : (k : Int) < (L : Int) := by omega
        have q5 : IntKind.i64.wrap ((k : Int) + 1) = (k : Int) + 1 := IntWalk.i64_in _ (by omega)
        have hBk : (ad.add (k * 2)).block < w.heap.size := by rw [block_add]; exact hB
        have HP := Lib.hid hp
        clear hp hst hb4 hm1 hm2 hm3 hm4
        go_upto_region 8 with fail
        have d1 := hX.l0; have d2 := hX.l1; have f1 := (hX.fz 0).2.2.1; have f2 := (hX.fz 1).2.2.1
        go_region
        go_upto_region 9 with fail
        refine any_gen (fun z => BX w.heap.size m1 m2 hx hy w z) (hX.lo m1 m2).drew ?_
        clear hX c1 c2 d1 d2 f1 f2 e3 e4
        as_aux_lemma =>
          rintro wz kz
          obtain ⟨ad3, e8, _, c1, c2⟩ := (HR.out.step kz.bel).at_ HP.out
          obtain rfl := Option.some.inj e8
          dsimp only at c1 c2
          have d1 := kz.h0; have d2 := kz.h1; have f1 := (kz.fz 0).2.2.2; have f2 := (kz.fz 1).2.2.2
          go_region
          have kv := (kz.hi m3 m4).drew
          go_wp2
          go_roundw
          case rel => exact ⟨k + 1, (m1, m2, m3, m4), by go_num, by omega, HST.out, kv⟩
          case measure => simp [intOf]; omega
      · have hkL : k = L := by omega
        have q2 : decide ((k : Int) < (L : Int)) = false := by simp; omega
        have F := Lib.hid (show box4 (x0, y0) l = (lx, ly, hx, hy) by rw [← hb4, hkL, ← HL.out, List.take_length])
        have z0 := hX.z0; have z1 := hX.z1; have z2 := hX.z2; have z3 := hX.z3; have l0 := hX.l0; have l1 := hX.l1; have h0 := hX.h0; have h1 := hX.h1
        have f0 := (hX.fz 0).1; have f1 := (hX.fz 1).1; have f2 := (hX.fz 0).2.1; have f3 := (hX.fz 1).2.1
        have hbl := hX.bel
        clear hb4 hX
        go_upto_region 10 with fail
        go_region
        go_wp2
        rw [F.out]
        refine bodyPost_ret (by simp [results, Try.results12, go_sem, *] <;> rfl) rfl ⟨rfl, ?_⟩
        repeat (first | exact hbl | exact Below.drew ?_ | refine Below.drew ?_ | refine Below.setCell ?_ (by simp; try omega) _)
end Go.Proofs.Ytlgfnhapjhoelaa
