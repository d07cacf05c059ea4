/- What the program's own layer 5 answers: products, sides, what lies between and within. -/
import Derived.Test.YtlgfnhapjhoelaaVec
import Derived.Test.YtlgfnhapjhoelaaRef5
import Derived.Test.YtlgfnhapjhoelaaRef5B
import Derived.Test.YtlgfnhapjhoelaaRef4
import Derived.Test.YtlgfnhapjhoelaaBoxNum
import Derived.Test.YtlgfnhapjhoelaaPts
namespace Go.Proofs.Ytlgfnhapjhoelaa
open Go.RowKit
set_option linter.unusedVariables false
set_option linter.unusedSimpArgs false
set_option maxHeartbeats 4000000
set_option maxRecDepth 100000

theorem keepD6 {w0 wa : World} {p0 p1 p2 p3 p4 p5 : Addr} {u0 u1 u2 u3 u4 u5 : Value} (h : wa.cell? p0 = some u0 ∧ wa.cell? p1 = some u1 ∧ wa.cell? p2 = some u2 ∧ wa.cell? p3 = some u3 ∧ wa.cell? p4 = some u4 ∧ wa.cell? p5 = some u5 ∧ Below w0.heap.size w0 wa) : wa.drew.cell? p0 = some u0 ∧ wa.drew.cell? p1 = some u1 ∧ wa.drew.cell? p2 = some u2 ∧ wa.drew.cell? p3 = some u3 ∧ wa.drew.cell? p4 = some u4 ∧ wa.drew.cell? p5 = some u5 ∧ Below w0.heap.size w0 wa.drew :=
  ⟨h.1, h.2.1, h.2.2.1, h.2.2.2.1, h.2.2.2.2.1, h.2.2.2.2.2.1, h.2.2.2.2.2.2.drew⟩
theorem product_any (a b m : Int) (w : World) (hm : a * b = m) (ha : -9223372036854775808 ≤ a ∧ a ≤ 9223372036854775807) (hb : -9223372036854775808 ≤ b ∧ b ≤ 9223372036854775807) :
    Calls Try.prog 54 #[.int .i64 a, .int .i64 b] w fun e w' => e = .returned (W m) ∧ Below w.heap.size w w' := by
  have C0 := fun w => mul_any a b w ha hb
  simp only [hm] at C0
  have C := Lib.hid C0
  clear C0 hm ha hb
  go_enter Try.func54, Try.ntmps54
  go_wp2_with fail
  refine (C.out _).mono ?_
  rintro e w1 ⟨rfl, h1⟩
  obtain ⟨hc, hf⟩ := bcell h1
  have z1 := h1.size
  simp at z1
  have c1 : w1.cell? ⟨w.heap.size, 0, none⟩ = some (.int .i64 0) := (hc _ _ (by simp)).trans (by simp)
  have c2 : w1.cell? ⟨w.heap.size, 1, none⟩ = some (.int .u64 0) := (hc _ _ (by simp)).trans (by simp)
  have f1 : w1.frozen? ⟨w.heap.size, 0, none⟩ = false := (hf _ _ (by simp)).trans (by simp)
  have f2 : w1.frozen? ⟨w.heap.size, 1, none⟩ = false := (hf _ _ (by simp)).trans (by simp)
  have hb0 : Below w.heap.size w w1 := ((Below.refl _ _).alloc (by simp) _).trans (h1.mono (by simp))
  clear h1 hc hf
  go_wp2
  refine bodyPost_ret (by simp [results, Try.results54, go_sem, c1, c2] <;> rfl) rfl ⟨rfl, ?_⟩
  exact Below.setCell (Below.setCell hb0 (by simp) _) (by simp) _

/-- Two pointers to boxes of points, in a world that has what was there. -/
def TwoPts (w : World) (a b c d : Int) (s t : Value) (wx : World) : Prop :=
  ∃ g h : Nat, s = .pointer (some ⟨g, 0, none⟩) ∧ t = .pointer (some ⟨h, 0, none⟩) ∧ (wx.cell? ⟨g, 0, none⟩ = some (.int .i64 (a)) ∧ wx.cell? ⟨g, 1, none⟩ = some (.int .i64 (b)) ∧ wx.cell? ⟨h, 0, none⟩ = some (.int .i64 (c)) ∧ wx.cell? ⟨h, 1, none⟩ = some (.int .i64 (d))) ∧ (g < wx.heap.size ∧ h < wx.heap.size) ∧ Below w.heap.size w wx

theorem side_any (x y u v p q : Int) (w : World) (hx : -1073741824 ≤ x ∧ x ≤ 1073741824) (hy : -1073741824 ≤ y ∧ y ≤ 1073741824) (hu : -1073741824 ≤ u ∧ u ≤ 1073741824) (hv : -1073741824 ≤ v ∧ v ≤ 1073741824) (hp : -1073741824 ≤ p ∧ p ≤ 1073741824) (hq : -1073741824 ≤ q ∧ q ≤ 1073741824) :
    Calls Try.prog 44 #[P2 x y, P2 u v, P2 p q] w fun e w' => e = .returned (.int .i64 (sideV x y u v p q)) ∧ Below w.heap.size w w' := by
  obtain ⟨da, hda⟩ : ∃ da, u - x = da := ⟨_, rfl⟩
  obtain ⟨db, hdb⟩ : ∃ db, v - y = db := ⟨_, rfl⟩
  obtain ⟨dc, hdc⟩ : ∃ dc, p - x = dc := ⟨_, rfl⟩
  obtain ⟨dd, hdd⟩ : ∃ dd, q - y = dd := ⟨_, rfl⟩
  have bda : -2147483648 ≤ da ∧ da ≤ 2147483648 := by omega
  have bdb : -2147483648 ≤ db ∧ db ≤ 2147483648 := by omega
  have bdc : -2147483648 ≤ dc ∧ dc ≤ 2147483648 := by omega
  have bdd : -2147483648 ≤ dd ∧ dd ≤ 2147483648 := by omega
  have gx : -2147483648 ≤ x ∧ x ≤ 2147483648 := by omega
  have gy : -2147483648 ≤ y ∧ y ≤ 2147483648 := by omega
  have gu : -2147483648 ≤ u ∧ u ≤ 2147483648 := by omega
  have gv : -2147483648 ≤ v ∧ v ≤ 2147483648 := by omega
  have gp : -2147483648 ≤ p ∧ p ≤ 2147483648 := by omega
  have gq : -2147483648 ≤ q ∧ q ≤ 2147483648 := by omega
  have ida : -9223372036854775808 ≤ da ∧ da ≤ 9223372036854775807 := by omega
  have idb : -9223372036854775808 ≤ db ∧ db ≤ 9223372036854775807 := by omega
  have idc : -9223372036854775808 ≤ dc ∧ dc ≤ 9223372036854775807 := by omega
  have idd : -9223372036854775808 ≤ dd ∧ dd ≤ 9223372036854775807 := by omega
  have SA0 := fun w => vsub_any u v x y w gu gv gx gy
  simp only [hda, hdb] at SA0
  have SA := Lib.hid SA0
  clear SA0
  have SB0 := fun w => vsub_any p q x y w gp gq gx gy
  simp only [hdc, hdd] at SB0
  have SB := Lib.hid SB0
  clear SB0
  have pm := prod_near da dd 2147483648 2147483648 bda bdd (by omega) (by omega)
  have pn := prod_near db dc 2147483648 2147483648 bdb bdc (by omega) (by omega)
  obtain ⟨m, hm⟩ : ∃ m, da * dd = m := ⟨_, rfl⟩
  obtain ⟨n, hn⟩ : ∃ n, db * dc = n := ⟨_, rfl⟩
  rw [hm] at pm
  rw [hn] at pn
  have HS := Lib.hid (show sideV x y u v p q = cmpN m n by unfold sideV; rw [hda, hdb, hdc, hdd, hm, hn])
  obtain ⟨s, hs⟩ : ∃ s, sideV x y u v p q = s := ⟨_, rfl⟩
  rw [hs] at HS ⊢
  have hcm := HS.out
  obtain ⟨wm, hwm⟩ : ∃ c, W m = c := ⟨_, rfl⟩
  obtain ⟨wn, hwn⟩ : ∃ c, W n = c := ⟨_, rfl⟩
  have MA0 := fun w => product_any da dd m w hm ida idd
  simp only [hwm] at MA0
  have MA := Lib.hid MA0
  clear MA0
  have MB0 := fun w => product_any db dc n w hn idb idc
  simp only [hwn] at MB0
  have MB := Lib.hid MB0
  clear MB0
  have CM0 := fun w => cmp_any m n w (by unfold In; omega) (by unfold In; omega)
  simp only [← hcm] at CM0
  simp only [hwm, hwn] at CM0
  have CM := Lib.hid CM0
  clear CM0
  clear hwm hwn
  clear hda hdb hdc hdd hm hn hs hcm HS bda bdb bdc bdd pm pn ida idb idc idd gx gy gu gv gp gq hx hy hu hv hp hq
  go_enter Try.func44, Try.ntmps44
  go_upto_region 1 with fail
  refine any_gen (fun w' => w'.cell? ⟨w.heap.size, 0, none⟩ = some (.int .i64 (x)) ∧ w'.cell? ⟨w.heap.size, 1, none⟩ = some (.int .i64 (y)) ∧ w'.cell? ⟨w.heap.size + 1, 0, none⟩ = some (.int .i64 (u)) ∧ w'.cell? ⟨w.heap.size + 1, 1, none⟩ = some (.int .i64 (v)) ∧ w'.cell? ⟨w.heap.size + 1 + 1, 0, none⟩ = some (.int .i64 (p)) ∧ w'.cell? ⟨w.heap.size + 1 + 1, 1, none⟩ = some (.int .i64 (q)) ∧ w.heap.size + 1 + 1 + 1 ≤ w'.heap.size ∧ Below w.heap.size w w') ⟨by simp [go_sem], by simp [go_sem], by simp [go_sem], by simp [go_sem], by simp [go_sem], by simp [go_sem], ?siz, ?bel⟩ ?_
  case siz => simp
  case bel => repeat (first | exact Below.refl _ _ | refine below_dN ?_ _ | refine Below.setCell ?_ (by simp; try omega) _ | refine Below.alloc ?_ (by simp; try omega) _)
  rintro w0 ⟨c1, c2, c3, c4, c5, c6, hs, hb0⟩
  go_cut [7, 8] (fun s7 s8 wx => TwoPts w da db dc dd s7 s8 wx)
  case first =>
    have K0 := Lib.hid (show w0.cell? ⟨w.heap.size, 0, none⟩ = some (.int .i64 (x)) ∧ w0.cell? ⟨w.heap.size, 1, none⟩ = some (.int .i64 (y)) ∧ w0.cell? ⟨w.heap.size + 1, 0, none⟩ = some (.int .i64 (u)) ∧ w0.cell? ⟨w.heap.size + 1, 1, none⟩ = some (.int .i64 (v)) ∧ w0.cell? ⟨w.heap.size + 1 + 1, 0, none⟩ = some (.int .i64 (p)) ∧ w0.cell? ⟨w.heap.size + 1 + 1, 1, none⟩ = some (.int .i64 (q)) ∧ Below w0.heap.size w0 w0 from ⟨c1, c2, c3, c4, c5, c6, Below.refl _ _⟩)
    go_region_held3 (fun w' => w'.cell? ⟨w.heap.size, 0, none⟩ = some (.int .i64 (x)) ∧ w'.cell? ⟨w.heap.size, 1, none⟩ = some (.int .i64 (y)) ∧ w'.cell? ⟨w.heap.size + 1, 0, none⟩ = some (.int .i64 (u)) ∧ w'.cell? ⟨w.heap.size + 1, 1, none⟩ = some (.int .i64 (v)) ∧ w'.cell? ⟨w.heap.size + 1 + 1, 0, none⟩ = some (.int .i64 (p)) ∧ w'.cell? ⟨w.heap.size + 1 + 1, 1, none⟩ = some (.int .i64 (q)) ∧ Below w0.heap.size w0 w') ((first | with_reducible assumption | with_reducible exact keep6 ‹_› hb (by (try dsimp only); omega) (by (try dsimp only); omega) (by (try dsimp only); omega) (by (try dsimp only); omega) (by (try dsimp only); omega) (by (try dsimp only); omega) | with_reducible exact keepA6 ‹_› _ (by (try dsimp only); omega) (by (try dsimp only); omega) (by (try dsimp only); omega) (by (try dsimp only); omega) (by (try dsimp only); omega) (by (try dsimp only); omega) | with_reducible exact keepA6 (keepA6 ‹_› _ (by (try dsimp only); omega) (by (try dsimp only); omega) (by (try dsimp only); omega) (by (try dsimp only); omega) (by (try dsimp only); omega) (by (try dsimp only); omega)) _ (by (try dsimp only); (try simp); omega) (by (try dsimp only); (try simp); omega) (by (try dsimp only); (try simp); omega) (by (try dsimp only); (try simp); omega) (by (try dsimp only); (try simp); omega) (by (try dsimp only); (try simp); omega) | with_reducible exact keepA6 KB.out _ (by (try dsimp only); omega) (by (try dsimp only); omega) (by (try dsimp only); omega) (by (try dsimp only); omega) (by (try dsimp only); omega) (by (try dsimp only); omega) | with_reducible exact keepA6 (keepA6 KB.out _ (by (try dsimp only); omega) (by (try dsimp only); omega) (by (try dsimp only); omega) (by (try dsimp only); omega) (by (try dsimp only); omega) (by (try dsimp only); omega)) _ (by (try dsimp only); (try simp); omega) (by (try dsimp only); (try simp); omega) (by (try dsimp only); (try simp); omega) (by (try dsimp only); (try simp); omega) (by (try dsimp only); (try simp); omega) (by (try dsimp only); (try simp); omega) | with_reducible exact keepA6 KA.out _ (by (try dsimp only); omega) (by (try dsimp only); omega) (by (try dsimp only); omega) (by (try dsimp only); omega) (by (try dsimp only); omega) (by (try dsimp only); omega) | with_reducible exact keepA6 (keepA6 KA.out _ (by (try dsimp only); omega) (by (try dsimp only); omega) (by (try dsimp only); omega) (by (try dsimp only); omega) (by (try dsimp only); omega) (by (try dsimp only); omega)) _ (by (try dsimp only); (try simp); omega) (by (try dsimp only); (try simp); omega) (by (try dsimp only); (try simp); omega) (by (try dsimp only); (try simp); omega) (by (try dsimp only); (try simp); omega) (by (try dsimp only); (try simp); omega) | with_reducible exact keepD6 (keepA6 K0.out _ (by (try dsimp only); omega) (by (try dsimp only); omega) (by (try dsimp only); omega) (by (try dsimp only); omega) (by (try dsimp only); omega) (by (try dsimp only); omega)) | with_reducible exact keepD6 (keepA6 (keepA6 K0.out _ (by (try dsimp only); omega) (by (try dsimp only); omega) (by (try dsimp only); omega) (by (try dsimp only); omega) (by (try dsimp only); omega) (by (try dsimp only); omega)) _ (by (try dsimp only); (try simp); omega) (by (try dsimp only); (try simp); omega) (by (try dsimp only); (try simp); omega) (by (try dsimp only); (try simp); omega) (by (try dsimp only); (try simp); omega) (by (try dsimp only); (try simp); omega)) | with_reducible exact keepS6 (keepS6 ‹_› _ _ (by (try dsimp only); omega) (by (try dsimp only); omega) (by (try dsimp only); omega) (by (try dsimp only); omega) (by (try dsimp only); omega) (by (try dsimp only); omega) (by (try dsimp only); omega)) _ _ (by (try dsimp only); omega) (by (try dsimp only); omega) (by (try dsimp only); omega) (by (try dsimp only); omega) (by (try dsimp only); omega) (by (try dsimp only); omega) (by (try dsimp only); omega) | with_reducible exact keepS6 (keepS6 (keepA6 KB.out _ (by (try dsimp only); omega) (by (try dsimp only); omega) (by (try dsimp only); omega) (by (try dsimp only); omega) (by (try dsimp only); omega) (by (try dsimp only); omega)) _ _ (by (try dsimp only); omega) (by (try dsimp only); omega) (by (try dsimp only); omega) (by (try dsimp only); omega) (by (try dsimp only); omega) (by (try dsimp only); omega) (by (try dsimp only); omega)) _ _ (by (try dsimp only); omega) (by (try dsimp only); omega) (by (try dsimp only); omega) (by (try dsimp only); omega) (by (try dsimp only); omega) (by (try dsimp only); omega) (by (try dsimp only); omega) | with_reducible exact keepD6 K0.out | (trace_state; fail))) ((first | (go_at_call 52; with_reducible refine (SA.out _).mono ?_; rintro e wA ⟨rfl, hb⟩; have hkA := bcell hb; have hzA := hb.size; (try simp at hzA); (try (have fa00 := hkA.1 w0.heap.size 0 (by first | omega | (simp; done) | (simp; omega)); have fa01 := hkA.1 w0.heap.size 1 (by first | omega | (simp; done) | (simp; omega)); have fa02 := hkA.2 w0.heap.size 0 (by first | omega | (simp; done) | (simp; omega)); have fa03 := hkA.2 w0.heap.size 1 (by first | omega | (simp; done) | (simp; omega)))); (try (have fa10 := hkA.1 (w0.heap.size + 1) 0 (by first | omega | (simp; done) | (simp; omega)); have fa11 := hkA.1 (w0.heap.size + 1) 1 (by first | omega | (simp; done) | (simp; omega)); have fa12 := hkA.2 (w0.heap.size + 1) 0 (by first | omega | (simp; done) | (simp; omega)); have fa13 := hkA.2 (w0.heap.size + 1) 1 (by first | omega | (simp; done) | (simp; omega)))); clear hkA; have KA := Lib.hid (keep6 ‹_› hb (by (try dsimp only); omega) (by (try dsimp only); omega) (by (try dsimp only); omega) (by (try dsimp only); omega) (by (try dsimp only); omega) (by (try dsimp only); omega)); (try (have hoa0 := fun o => World.cell?_alloc_old wA o ⟨w0.heap.size, 0, none⟩ (by dsimp only; omega))); (try (have hoa1 := fun o => World.cell?_alloc_old wA o ⟨w0.heap.size, 1, none⟩ (by dsimp only; omega))); (try (have hoa2 := fun o => World.frozen?_alloc_old wA o ⟨w0.heap.size, 0, none⟩ (by dsimp only; omega))); (try (have hoa3 := fun o => World.frozen?_alloc_old wA o ⟨w0.heap.size, 1, none⟩ (by dsimp only; omega)))) | (go_at_call 52; with_reducible refine (SB.out _).mono ?_; rintro e wB ⟨rfl, hb⟩; have hkB := bcell hb; have hzB := hb.size; (try simp at hzB); (try (have fb00 := hkB.1 w0.heap.size 0 (by first | omega | (simp; done) | (simp; omega)); have fb01 := hkB.1 w0.heap.size 1 (by first | omega | (simp; done) | (simp; omega)); have fb02 := hkB.2 w0.heap.size 0 (by first | omega | (simp; done) | (simp; omega)); have fb03 := hkB.2 w0.heap.size 1 (by first | omega | (simp; done) | (simp; omega)))); (try (have fb10 := hkB.1 (w0.heap.size + 1) 0 (by first | omega | (simp; done) | (simp; omega)); have fb11 := hkB.1 (w0.heap.size + 1) 1 (by first | omega | (simp; done) | (simp; omega)); have fb12 := hkB.2 (w0.heap.size + 1) 0 (by first | omega | (simp; done) | (simp; omega)); have fb13 := hkB.2 (w0.heap.size + 1) 1 (by first | omega | (simp; done) | (simp; omega)))); (try (have fb20 := hkB.1 wA.heap.size 0 (by first | omega | (simp; done) | (simp; omega)); have fb21 := hkB.1 wA.heap.size 1 (by first | omega | (simp; done) | (simp; omega)); have fb22 := hkB.2 wA.heap.size 0 (by first | omega | (simp; done) | (simp; omega)); have fb23 := hkB.2 wA.heap.size 1 (by first | omega | (simp; done) | (simp; omega)))); (try (have fb30 := hkB.1 (wA.heap.size + 1) 0 (by first | omega | (simp; done) | (simp; omega)); have fb31 := hkB.1 (wA.heap.size + 1) 1 (by first | omega | (simp; done) | (simp; omega)); have fb32 := hkB.2 (wA.heap.size + 1) 0 (by first | omega | (simp; done) | (simp; omega)); have fb33 := hkB.2 (wA.heap.size + 1) 1 (by first | omega | (simp; done) | (simp; omega)))); clear hkB; have KB := Lib.hid (keep6 ‹_› hb (by (try dsimp only); omega) (by (try dsimp only); omega) (by (try dsimp only); omega) (by (try dsimp only); omega) (by (try dsimp only); omega) (by (try dsimp only); omega)); (try (have hob0 := fun o => World.cell?_alloc_old wB o ⟨w0.heap.size, 0, none⟩ (by dsimp only; omega))); (try (have hob1 := fun o => World.cell?_alloc_old wB o ⟨w0.heap.size, 1, none⟩ (by dsimp only; omega))); (try (have hob2 := fun o => World.frozen?_alloc_old wB o ⟨w0.heap.size, 0, none⟩ (by dsimp only; omega))); (try (have hob3 := fun o => World.frozen?_alloc_old wB o ⟨w0.heap.size, 1, none⟩ (by dsimp only; omega))); (try (have hoc0 := fun o => World.cell?_alloc_old wB o ⟨wA.heap.size, 0, none⟩ (by dsimp only; omega))); (try (have hoc1 := fun o => World.cell?_alloc_old wB o ⟨wA.heap.size, 1, none⟩ (by dsimp only; omega))); (try (have hoc2 := fun o => World.frozen?_alloc_old wB o ⟨wA.heap.size, 0, none⟩ (by dsimp only; omega))); (try (have hoc3 := fun o => World.frozen?_alloc_old wB o ⟨wA.heap.size, 1, none⟩ (by dsimp only; omega))))))
    all_goals
      have HH := ‹_ ∧ _ ∧ _ ∧ _ ∧ _ ∧ _ ∧ Below w0.heap.size w0 _›
      have hF := belK6 HH
      clear HH
      go_wp2_with fail
      go_meet
      exact ⟨_, _, rfl, rfl, ⟨by simp [go_sem, *], by simp [go_sem, *], by simp [go_sem, *], by simp [go_sem, *]⟩, ⟨by first | omega | (simp; done) | (simp; omega), by first | omega | (simp; done) | (simp; omega)⟩, hb0.trans (hF.mono (by omega))⟩
  case rest =>
    obtain ⟨g, h, rfl, rfl, ⟨c1, c2, c3, c4⟩, ⟨hg, hh⟩, hb0⟩ := hcut
    obtain ⟨w4, rfl⟩ : ∃ w4 : World, w4 = wc := ⟨_, rfl⟩
    go_wp2_with fail
    first | (go_region_held3 (fun w' => w'.cell? ⟨g, 0, none⟩ = some (.int .i64 (da)) ∧ w'.cell? ⟨g, 1, none⟩ = some (.int .i64 (db)) ∧ w'.cell? ⟨h, 0, none⟩ = some (.int .i64 (dc)) ∧ w'.cell? ⟨h, 1, none⟩ = some (.int .i64 (dd)) ∧ Below w4.heap.size w4 w') ((first | assumption | exact ⟨by simp [*], by simp [*], by simp [*], by simp [*], (Below.refl _ _).drew⟩ | exact keep4 ‹_› hb (by (try dsimp only); omega) (by (try dsimp only); omega) (by (try dsimp only); omega) (by (try dsimp only); omega) | exact keepA4 ‹_› _ (by (try dsimp only); omega) (by (try dsimp only); omega) (by (try dsimp only); omega) (by (try dsimp only); omega) | exact keepS4 (keepS4 ‹_› _ _ (by (try dsimp only); omega) (by (try dsimp only); omega) (by (try dsimp only); omega) (by (try dsimp only); omega) (by (try dsimp only); omega)) _ _ (by (try dsimp only); omega) (by (try dsimp only); omega) (by (try dsimp only); omega) (by (try dsimp only); omega) (by (try dsimp only); omega))) ((first | (go_at_call 54; with_reducible refine (MA.out _).mono ?_; rintro e w' ⟨rfl, hb⟩) | (go_at_call 54; with_reducible refine (MB.out _).mono ?_; rintro e w' ⟨rfl, hb⟩) | (go_at_call 53; with_reducible refine (CM.out _).mono ?_; rintro e w' ⟨rfl, hb⟩)))) | fail
    all_goals
      have hF := belK4 ‹_ ∧ _ ∧ _ ∧ _ ∧ Below w4.heap.size w4 _›
      go_wp2
      go_ret
      exact ⟨rfl, hb0.trans (hF.mono (hb0.size))⟩

end Go.Proofs.Ytlgfnhapjhoelaa
