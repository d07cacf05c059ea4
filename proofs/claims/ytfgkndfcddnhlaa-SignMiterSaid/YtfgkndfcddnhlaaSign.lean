/- What the program's own layer 5 answers: products, sides, what lies between and within. -/
import Derived.Test.YtfgkndfcddnhlaaVec
import Derived.Test.YtfgkndfcddnhlaaRef5
import Derived.Test.YtfgkndfcddnhlaaRef5B
import Derived.Test.YtfgkndfcddnhlaaRef5C
import Derived.Test.YtfgkndfcddnhlaaPts
namespace Go.Proofs.Ytfgkndfcddnhlaa
open Go.RowKit
set_option linter.unusedVariables false
set_option linter.unusedSimpArgs false
set_option maxHeartbeats 4000000
set_option maxRecDepth 100000

theorem keepD6 {w0 wa : World} {p0 p1 p2 p3 p4 p5 : Addr} {u0 u1 u2 u3 u4 u5 : Value} (h : wa.cell? p0 = some u0 ∧ wa.cell? p1 = some u1 ∧ wa.cell? p2 = some u2 ∧ wa.cell? p3 = some u3 ∧ wa.cell? p4 = some u4 ∧ wa.cell? p5 = some u5 ∧ Below w0.heap.size w0 wa) : wa.drew.cell? p0 = some u0 ∧ wa.drew.cell? p1 = some u1 ∧ wa.drew.cell? p2 = some u2 ∧ wa.drew.cell? p3 = some u3 ∧ wa.drew.cell? p4 = some u4 ∧ wa.drew.cell? p5 = some u5 ∧ Below w0.heap.size w0 wa.drew :=
  ⟨h.1, h.2.1, h.2.2.1, h.2.2.2.1, h.2.2.2.2.1, h.2.2.2.2.2.1, h.2.2.2.2.2.2.drew⟩
theorem product_any (a b m : Int) (w : World) (hm : a * b = m) (ha : -9223372036854775808 ≤ a ∧ a ≤ 9223372036854775807) (hb : -9223372036854775808 ≤ b ∧ b ≤ 9223372036854775807) :
    Calls Try.prog 34 #[.int .i64 a, .int .i64 b] w fun e w' => e = .returned (W m) ∧ Below w.heap.size w w' := by
  have C0 := fun w => mul_any a b w ha hb
  simp only [hm] at C0
  have C := Lib.hid C0
  clear C0 hm ha hb
  go_enter Try.func34, Try.ntmps34
  go_wp2_with fail
  refine (C.out _).mono ?_
  rintro e w1 ⟨rfl, h1⟩
  obtain ⟨hc, hf⟩ := bcell h1
  have z1 := h1.size
  simp at z1
  have c1 : w1.cell? ⟨w.heap.size, 0, none⟩ = some (.int .i64 0) := (hc _ _ (by simp)).trans (by simp)
  have c2 : w1.cell? ⟨w.heap.size, 1, none⟩ = some (.int .u64 0) := (hc _ _ (by simp)).trans (by simp)
  have f1 : w1.frozen? ⟨w.heap.size, 0, none⟩ = false := (hf _ _ (by simp)).trans (by simp)
  have f2 : w1.frozen? ⟨w.heap.size, 1, none⟩ = false := (hf _ _ (by simp)).trans (by simp)
  have hb0 : Below w.heap.size w w1 := ((Below.refl _ _).alloc (by simp) _).trans (h1.mono (by simp))
  clear h1 hc hf
  go_wp2
  refine bodyPost_ret (by simp [results, Try.results34, go_sem, c1, c2] <;> rfl) rfl ⟨rfl, ?_⟩
  exact Below.setCell (Below.setCell hb0 (by simp) _) (by simp) _

theorem amid_any (a b n : Int) (w : World) :
    Calls Try.prog 38 #[.int .i64 a, .int .i64 b, .int .i64 n] w fun e w' => e = .returned (.bool (decide ((if b < a then b else a) ≤ n ∧ n ≤ (if a < b then b else a)))) ∧ w = w' := by
  obtain ⟨m, hm⟩ : ∃ m, (if b < a then b else a) = m := ⟨_, rfl⟩
  obtain ⟨M, hM⟩ : ∃ M, (if a < b then b else a) = M := ⟨_, rfl⟩
  have e1 : min a b = m := by rw [← hm, Int.min_def]; split <;> split <;> omega
  have e2 : max a b = M := by rw [← hM, Int.max_def]; split <;> split <;> omega
  obtain ⟨o, ho⟩ : ∃ o, decide (m ≤ n ∧ n ≤ M) = o := ⟨_, rfl⟩
  rw [hm, hM, ho]
  by_cases h1 : m ≤ n
  · by_cases h2 : n ≤ M
    · obtain rfl : true = o := by rw [← ho]; symm; rw [decide_eq_true_iff]; omega
      clear ho
      go_enter Try.func38, Try.ntmps38
      go_wp2
      go_ret
      exact ⟨rfl, rfl⟩
    · obtain rfl : false = o := by rw [← ho]; symm; rw [decide_eq_false_iff_not]; omega
      clear ho
      go_enter Try.func38, Try.ntmps38
      go_wp2
      go_ret
      exact ⟨by simp [*], rfl⟩
  · obtain rfl : false = o := by rw [← ho]; symm; rw [decide_eq_false_iff_not]; omega
    clear ho
    go_enter Try.func38, Try.ntmps38
    go_wp2
    go_ret
    exact ⟨by simp [*], rfl⟩

/-- Two pointers to boxes of points, in a world that has what was there. -/
def TwoPts (w : World) (a b c d : Int) (s t : Value) (wx : World) : Prop :=
  ∃ g h : Nat, s = .pointer (some ⟨g, 0, none⟩) ∧ t = .pointer (some ⟨h, 0, none⟩) ∧ (wx.cell? ⟨g, 0, none⟩ = some (.int .i64 (a)) ∧ wx.cell? ⟨g, 1, none⟩ = some (.int .i64 (b)) ∧ wx.cell? ⟨h, 0, none⟩ = some (.int .i64 (c)) ∧ wx.cell? ⟨h, 1, none⟩ = some (.int .i64 (d))) ∧ (g < wx.heap.size ∧ h < wx.heap.size) ∧ Below w.heap.size w wx

theorem side_any (x y u v p q : Int) (w : World) (hx : -1073741824 ≤ x ∧ x ≤ 1073741824) (hy : -1073741824 ≤ y ∧ y ≤ 1073741824) (hu : -1073741824 ≤ u ∧ u ≤ 1073741824) (hv : -1073741824 ≤ v ∧ v ≤ 1073741824) (hp : -1073741824 ≤ p ∧ p ≤ 1073741824) (hq : -1073741824 ≤ q ∧ q ≤ 1073741824) :
    Calls Try.prog 12 #[P2 x y, P2 u v, P2 p q] w fun e w' => e = .returned (.int .i64 (sideV x y u v p q)) ∧ Below w.heap.size w w' := by
  obtain ⟨da, hda⟩ : ∃ da, u - x = da := ⟨_, rfl⟩
  obtain ⟨db, hdb⟩ : ∃ db, v - y = db := ⟨_, rfl⟩
  obtain ⟨dc, hdc⟩ : ∃ dc, p - x = dc := ⟨_, rfl⟩
  obtain ⟨dd, hdd⟩ : ∃ dd, q - y = dd := ⟨_, rfl⟩
  have bda : -2147483648 ≤ da ∧ da ≤ 2147483648 := by omega
  have bdb : -2147483648 ≤ db ∧ db ≤ 2147483648 := by omega
  have bdc : -2147483648 ≤ dc ∧ dc ≤ 2147483648 := by omega
  have bdd : -2147483648 ≤ dd ∧ dd ≤ 2147483648 := by omega
  have gx : -2147483648 ≤ x ∧ x ≤ 2147483648 := by omega
  have gy : -2147483648 ≤ y ∧ y ≤ 2147483648 := by omega
  have gu : -2147483648 ≤ u ∧ u ≤ 2147483648 := by omega
  have gv : -2147483648 ≤ v ∧ v ≤ 2147483648 := by omega
  have gp : -2147483648 ≤ p ∧ p ≤ 2147483648 := by omega
  have gq : -2147483648 ≤ q ∧ q ≤ 2147483648 := by omega
  have ida : -9223372036854775808 ≤ da ∧ da ≤ 9223372036854775807 := by omega
  have idb : -9223372036854775808 ≤ db ∧ db ≤ 9223372036854775807 := by omega
  have idc : -9223372036854775808 ≤ dc ∧ dc ≤ 9223372036854775807 := by omega
  have idd : -9223372036854775808 ≤ dd ∧ dd ≤ 9223372036854775807 := by omega
  have SA0 := fun w => vsub_any u v x y w gu gv gx gy
  simp only [hda, hdb] at SA0
  have SA := Lib.hid SA0
  clear SA0
  have SB0 := fun w => vsub_any p q x y w gp gq gx gy
  simp only [hdc, hdd] at SB0
  have SB := Lib.hid SB0
  clear SB0
  have pm := prod_near da dd 2147483648 2147483648 bda bdd (by omega) (by omega)
  have pn := prod_near db dc 2147483648 2147483648 bdb bdc (by omega) (by omega)
  obtain ⟨m, hm⟩ : ∃ m, da * dd = m := ⟨_, rfl⟩
  obtain ⟨n, hn⟩ : ∃ n, db * dc = n := ⟨_, rfl⟩
  rw [hm] at pm
  rw [hn] at pn
  have HS := Lib.hid (show sideV x y u v p q = cmpN m n by unfold sideV; rw [hda, hdb, hdc, hdd, hm, hn])
  obtain ⟨s, hs⟩ : ∃ s, sideV x y u v p q = s := ⟨_, rfl⟩
  rw [hs] at HS ⊢
  have hcm := HS.out
  obtain ⟨wm, hwm⟩ : ∃ c, W m = c := ⟨_, rfl⟩
  obtain ⟨wn, hwn⟩ : ∃ c, W n = c := ⟨_, rfl⟩
  have MA0 := fun w => product_any da dd m w hm ida idd
  simp only [hwm] at MA0
  have MA := Lib.hid MA0
  clear MA0
  have MB0 := fun w => product_any db dc n w hn idb idc
  simp only [hwn] at MB0
  have MB := Lib.hid MB0
  clear MB0
  have CM0 := fun w => cmp_any m n w (by unfold In; omega) (by unfold In; omega)
  simp only [← hcm] at CM0
  simp only [hwm, hwn] at CM0
  have CM := Lib.hid CM0
  clear CM0
  clear hwm hwn
  clear hda hdb hdc hdd hm hn hs hcm HS bda bdb bdc bdd pm pn ida idb idc idd gx gy gu gv gp gq hx hy hu hv hp hq
  go_enter Try.func12, Try.ntmps12
  go_upto_region 1 with fail
  refine any_gen (fun w' => w'.cell? ⟨w.heap.size, 0, none⟩ = some (.int .i64 (x)) ∧ w'.cell? ⟨w.heap.size, 1, none⟩ = some (.int .i64 (y)) ∧ w'.cell? ⟨w.heap.size + 1, 0, none⟩ = some (.int .i64 (u)) ∧ w'.cell? ⟨w.heap.size + 1, 1, none⟩ = some (.int .i64 (v)) ∧ w'.cell? ⟨w.heap.size + 1 + 1, 0, none⟩ = some (.int .i64 (p)) ∧ w'.cell? ⟨w.heap.size + 1 + 1, 1, none⟩ = some (.int .i64 (q)) ∧ w.heap.size + 1 + 1 + 1 ≤ w'.heap.size ∧ Below w.heap.size w w') ⟨by simp [go_sem], by simp [go_sem], by simp [go_sem], by simp [go_sem], by simp [go_sem], by simp [go_sem], ?siz, ?bel⟩ ?_
  case siz => simp
  case bel => repeat (first | exact Below.refl _ _ | refine below_dN ?_ _ | refine Below.setCell ?_ (by simp; try omega) _ | refine Below.alloc ?_ (by simp; try omega) _)
  rintro w0 ⟨c1, c2, c3, c4, c5, c6, hs, hb0⟩
  go_cut [7, 8] (fun s7 s8 wx => TwoPts w da db dc dd s7 s8 wx)
  case first =>
    have K0 := Lib.hid (show w0.cell? ⟨w.heap.size, 0, none⟩ = some (.int .i64 (x)) ∧ w0.cell? ⟨w.heap.size, 1, none⟩ = some (.int .i64 (y)) ∧ w0.cell? ⟨w.heap.size + 1, 0, none⟩ = some (.int .i64 (u)) ∧ w0.cell? ⟨w.heap.size + 1, 1, none⟩ = some (.int .i64 (v)) ∧ w0.cell? ⟨w.heap.size + 1 + 1, 0, none⟩ = some (.int .i64 (p)) ∧ w0.cell? ⟨w.heap.size + 1 + 1, 1, none⟩ = some (.int .i64 (q)) ∧ Below w0.heap.size w0 w0 from ⟨c1, c2, c3, c4, c5, c6, Below.refl _ _⟩)
    go_region_held3 (fun w' => w'.cell? ⟨w.heap.size, 0, none⟩ = some (.int .i64 (x)) ∧ w'.cell? ⟨w.heap.size, 1, none⟩ = some (.int .i64 (y)) ∧ w'.cell? ⟨w.heap.size + 1, 0, none⟩ = some (.int .i64 (u)) ∧ w'.cell? ⟨w.heap.size + 1, 1, none⟩ = some (.int .i64 (v)) ∧ w'.cell? ⟨w.heap.size + 1 + 1, 0, none⟩ = some (.int .i64 (p)) ∧ w'.cell? ⟨w.heap.size + 1 + 1, 1, none⟩ = some (.int .i64 (q)) ∧ Below w0.heap.size w0 w') ((first | with_reducible assumption | with_reducible exact keep6 ‹_› hb (by (try dsimp only); omega) (by (try dsimp only); omega) (by (try dsimp only); omega) (by (try dsimp only); omega) (by (try dsimp only); omega) (by (try dsimp only); omega) | with_reducible exact keepA6 ‹_› _ (by (try dsimp only); omega) (by (try dsimp only); omega) (by (try dsimp only); omega) (by (try dsimp only); omega) (by (try dsimp only); omega) (by (try dsimp only); omega) | with_reducible exact keepA6 (keepA6 ‹_› _ (by (try dsimp only); omega) (by (try dsimp only); omega) (by (try dsimp only); omega) (by (try dsimp only); omega) (by (try dsimp only); omega) (by (try dsimp only); omega)) _ (by (try dsimp only); (try simp); omega) (by (try dsimp only); (try simp); omega) (by (try dsimp only); (try simp); omega) (by (try dsimp only); (try simp); omega) (by (try dsimp only); (try simp); omega) (by (try dsimp only); (try simp); omega) | with_reducible exact keepA6 KB.out _ (by (try dsimp only); omega) (by (try dsimp only); omega) (by (try dsimp only); omega) (by (try dsimp only); omega) (by (try dsimp only); omega) (by (try dsimp only); omega) | with_reducible exact keepA6 (keepA6 KB.out _ (by (try dsimp only); omega) (by (try dsimp only); omega) (by (try dsimp only); omega) (by (try dsimp only); omega) (by (try dsimp only); omega) (by (try dsimp only); omega)) _ (by (try dsimp only); (try simp); omega) (by (try dsimp only); (try simp); omega) (by (try dsimp only); (try simp); omega) (by (try dsimp only); (try simp); omega) (by (try dsimp only); (try simp); omega) (by (try dsimp only); (try simp); omega) | with_reducible exact keepA6 KA.out _ (by (try dsimp only); omega) (by (try dsimp only); omega) (by (try dsimp only); omega) (by (try dsimp only); omega) (by (try dsimp only); omega) (by (try dsimp only); omega) | with_reducible exact keepA6 (keepA6 KA.out _ (by (try dsimp only); omega) (by (try dsimp only); omega) (by (try dsimp only); omega) (by (try dsimp only); omega) (by (try dsimp only); omega) (by (try dsimp only); omega)) _ (by (try dsimp only); (try simp); omega) (by (try dsimp only); (try simp); omega) (by (try dsimp only); (try simp); omega) (by (try dsimp only); (try simp); omega) (by (try dsimp only); (try simp); omega) (by (try dsimp only); (try simp); omega) | with_reducible exact keepD6 (keepA6 K0.out _ (by (try dsimp only); omega) (by (try dsimp only); omega) (by (try dsimp only); omega) (by (try dsimp only); omega) (by (try dsimp only); omega) (by (try dsimp only); omega)) | with_reducible exact keepD6 (keepA6 (keepA6 K0.out _ (by (try dsimp only); omega) (by (try dsimp only); omega) (by (try dsimp only); omega) (by (try dsimp only); omega) (by (try dsimp only); omega) (by (try dsimp only); omega)) _ (by (try dsimp only); (try simp); omega) (by (try dsimp only); (try simp); omega) (by (try dsimp only); (try simp); omega) (by (try dsimp only); (try simp); omega) (by (try dsimp only); (try simp); omega) (by (try dsimp only); (try simp); omega)) | with_reducible exact keepS6 (keepS6 ‹_› _ _ (by (try dsimp only); omega) (by (try dsimp only); omega) (by (try dsimp only); omega) (by (try dsimp only); omega) (by (try dsimp only); omega) (by (try dsimp only); omega) (by (try dsimp only); omega)) _ _ (by (try dsimp only); omega) (by (try dsimp only); omega) (by (try dsimp only); omega) (by (try dsimp only); omega) (by (try dsimp only); omega) (by (try dsimp only); omega) (by (try dsimp only); omega) | with_reducible exact keepS6 (keepS6 (keepA6 KB.out _ (by (try dsimp only); omega) (by (try dsimp only); omega) (by (try dsimp only); omega) (by (try dsimp only); omega) (by (try dsimp only); omega) (by (try dsimp only); omega)) _ _ (by (try dsimp only); omega) (by (try dsimp only); omega) (by (try dsimp only); omega) (by (try dsimp only); omega) (by (try dsimp only); omega) (by (try dsimp only); omega) (by (try dsimp only); omega)) _ _ (by (try dsimp only); omega) (by (try dsimp only); omega) (by (try dsimp only); omega) (by (try dsimp only); omega) (by (try dsimp only); omega) (by (try dsimp only); omega) (by (try dsimp only); omega) | with_reducible exact keepD6 K0.out | (trace_state; fail))) ((first | (go_at_call 32; with_reducible refine (SA.out _).mono ?_; rintro e wA ⟨rfl, hb⟩; have hkA := bcell hb; have hzA := hb.size; (try simp at hzA); (try (have fa00 := hkA.1 w0.heap.size 0 (by first | omega | (simp; done) | (simp; omega)); have fa01 := hkA.1 w0.heap.size 1 (by first | omega | (simp; done) | (simp; omega)); have fa02 := hkA.2 w0.heap.size 0 (by first | omega | (simp; done) | (simp; omega)); have fa03 := hkA.2 w0.heap.size 1 (by first | omega | (simp; done) | (simp; omega)))); (try (have fa10 := hkA.1 (w0.heap.size + 1) 0 (by first | omega | (simp; done) | (simp; omega)); have fa11 := hkA.1 (w0.heap.size + 1) 1 (by first | omega | (simp; done) | (simp; omega)); have fa12 := hkA.2 (w0.heap.size + 1) 0 (by first | omega | (simp; done) | (simp; omega)); have fa13 := hkA.2 (w0.heap.size + 1) 1 (by first | omega | (simp; done) | (simp; omega)))); clear hkA; have KA := Lib.hid (keep6 ‹_› hb (by (try dsimp only); omega) (by (try dsimp only); omega) (by (try dsimp only); omega) (by (try dsimp only); omega) (by (try dsimp only); omega) (by (try dsimp only); omega)); (try (have hoa0 := fun o => World.cell?_alloc_old wA o ⟨w0.heap.size, 0, none⟩ (by dsimp only; omega))); (try (have hoa1 := fun o => World.cell?_alloc_old wA o ⟨w0.heap.size, 1, none⟩ (by dsimp only; omega))); (try (have hoa2 := fun o => World.frozen?_alloc_old wA o ⟨w0.heap.size, 0, none⟩ (by dsimp only; omega))); (try (have hoa3 := fun o => World.frozen?_alloc_old wA o ⟨w0.heap.size, 1, none⟩ (by dsimp only; omega)))) | (go_at_call 32; with_reducible refine (SB.out _).mono ?_; rintro e wB ⟨rfl, hb⟩; have hkB := bcell hb; have hzB := hb.size; (try simp at hzB); (try (have fb00 := hkB.1 w0.heap.size 0 (by first | omega | (simp; done) | (simp; omega)); have fb01 := hkB.1 w0.heap.size 1 (by first | omega | (simp; done) | (simp; omega)); have fb02 := hkB.2 w0.heap.size 0 (by first | omega | (simp; done) | (simp; omega)); have fb03 := hkB.2 w0.heap.size 1 (by first | omega | (simp; done) | (simp; omega)))); (try (have fb10 := hkB.1 (w0.heap.size + 1) 0 (by first | omega | (simp; done) | (simp; omega)); have fb11 := hkB.1 (w0.heap.size + 1) 1 (by first | omega | (simp; done) | (simp; omega)); have fb12 := hkB.2 (w0.heap.size + 1) 0 (by first | omega | (simp; done) | (simp; omega)); have fb13 := hkB.2 (w0.heap.size + 1) 1 (by first | omega | (simp; done) | (simp; omega)))); (try (have fb20 := hkB.1 wA.heap.size 0 (by first | omega | (simp; done) | (simp; omega)); have fb21 := hkB.1 wA.heap.size 1 (by first | omega | (simp; done) | (simp; omega)); have fb22 := hkB.2 wA.heap.size 0 (by first | omega | (simp; done) | (simp; omega)); have fb23 := hkB.2 wA.heap.size 1 (by first | omega | (simp; done) | (simp; omega)))); (try (have fb30 := hkB.1 (wA.heap.size + 1) 0 (by first | omega | (simp; done) | (simp; omega)); have fb31 := hkB.1 (wA.heap.size + 1) 1 (by first | omega | (simp; done) | (simp; omega)); have fb32 := hkB.2 (wA.heap.size + 1) 0 (by first | omega | (simp; done) | (simp; omega)); have fb33 := hkB.2 (wA.heap.size + 1) 1 (by first | omega | (simp; done) | (simp; omega)))); clear hkB; have KB := Lib.hid (keep6 ‹_› hb (by (try dsimp only); omega) (by (try dsimp only); omega) (by (try dsimp only); omega) (by (try dsimp only); omega) (by (try dsimp only); omega) (by (try dsimp only); omega)); (try (have hob0 := fun o => World.cell?_alloc_old wB o ⟨w0.heap.size, 0, none⟩ (by dsimp only; omega))); (try (have hob1 := fun o => World.cell?_alloc_old wB o ⟨w0.heap.size, 1, none⟩ (by dsimp only; omega))); (try (have hob2 := fun o => World.frozen?_alloc_old wB o ⟨w0.heap.size, 0, none⟩ (by dsimp only; omega))); (try (have hob3 := fun o => World.frozen?_alloc_old wB o ⟨w0.heap.size, 1, none⟩ (by dsimp only; omega))); (try (have hoc0 := fun o => World.cell?_alloc_old wB o ⟨wA.heap.size, 0, none⟩ (by dsimp only; omega))); (try (have hoc1 := fun o => World.cell?_alloc_old wB o ⟨wA.heap.size, 1, none⟩ (by dsimp only; omega))); (try (have hoc2 := fun o => World.frozen?_alloc_old wB o ⟨wA.heap.size, 0, none⟩ (by dsimp only; omega))); (try (have hoc3 := fun o => World.frozen?_alloc_old wB o ⟨wA.heap.size, 1, none⟩ (by dsimp only; omega))))))
    all_goals
      have HH := ‹_ ∧ _ ∧ _ ∧ _ ∧ _ ∧ _ ∧ Below w0.heap.size w0 _›
      have hF := belK6 HH
      clear HH
      go_wp2_with fail
      go_meet
      exact ⟨_, _, rfl, rfl, ⟨by simp [go_sem, *], by simp [go_sem, *], by simp [go_sem, *], by simp [go_sem, *]⟩, ⟨by first | omega | (simp; done) | (simp; omega), by first | omega | (simp; done) | (simp; omega)⟩, hb0.trans (hF.mono (by omega))⟩
  case rest =>
    obtain ⟨g, h, rfl, rfl, ⟨c1, c2, c3, c4⟩, ⟨hg, hh⟩, hb0⟩ := hcut
    obtain ⟨w4, rfl⟩ : ∃ w4 : World, w4 = wc := ⟨_, rfl⟩
    go_wp2_with fail
    first | (go_region_held3 (fun w' => w'.cell? ⟨g, 0, none⟩ = some (.int .i64 (da)) ∧ w'.cell? ⟨g, 1, none⟩ = some (.int .i64 (db)) ∧ w'.cell? ⟨h, 0, none⟩ = some (.int .i64 (dc)) ∧ w'.cell? ⟨h, 1, none⟩ = some (.int .i64 (dd)) ∧ Below w4.heap.size w4 w') ((first | assumption | exact ⟨by simp [*], by simp [*], by simp [*], by simp [*], (Below.refl _ _).drew⟩ | exact keep4 ‹_› hb (by (try dsimp only); omega) (by (try dsimp only); omega) (by (try dsimp only); omega) (by (try dsimp only); omega) | exact keepA4 ‹_› _ (by (try dsimp only); omega) (by (try dsimp only); omega) (by (try dsimp only); omega) (by (try dsimp only); omega) | exact keepS4 (keepS4 ‹_› _ _ (by (try dsimp only); omega) (by (try dsimp only); omega) (by (try dsimp only); omega) (by (try dsimp only); omega) (by (try dsimp only); omega)) _ _ (by (try dsimp only); omega) (by (try dsimp only); omega) (by (try dsimp only); omega) (by (try dsimp only); omega) (by (try dsimp only); omega))) ((first | (go_at_call 34; with_reducible refine (MA.out _).mono ?_; rintro e w' ⟨rfl, hb⟩) | (go_at_call 34; with_reducible refine (MB.out _).mono ?_; rintro e w' ⟨rfl, hb⟩) | (go_at_call 33; with_reducible refine (CM.out _).mono ?_; rintro e w' ⟨rfl, hb⟩)))) | fail
    all_goals
      have hF := belK4 ‹_ ∧ _ ∧ _ ∧ _ ∧ Below w4.heap.size w4 _›
      go_wp2
      go_ret
      exact ⟨rfl, hb0.trans (hF.mono (hb0.size))⟩

theorem between_sp (x y u v z t : Int) : betweenV x y u v z t = (decide (sideV x y u v z t = 0) && decide ((if u < x then u else x) ≤ z ∧ z ≤ (if x < u then u else x)) && decide ((if v < y then v else y) ≤ t ∧ t ≤ (if y < v then v else y))) := by
  rw [between_is]
  rw [Bool.and_assoc, ← Bool.decide_and, ← Bool.decide_and]
theorem between_any (x y u v p q : Int) (w : World) (hx : -1073741824 ≤ x ∧ x ≤ 1073741824) (hy : -1073741824 ≤ y ∧ y ≤ 1073741824) (hu : -1073741824 ≤ u ∧ u ≤ 1073741824) (hv : -1073741824 ≤ v ∧ v ≤ 1073741824) (hp : -1073741824 ≤ p ∧ p ≤ 1073741824) (hq : -1073741824 ≤ q ∧ q ≤ 1073741824) :
    Calls Try.prog 14 #[P2 x y, P2 u v, P2 p q] w fun e w' => e = .returned (.bool (betweenV x y u v p q)) ∧ Below w.heap.size w w' := by
  rw [between_sp]
  obtain ⟨s, hs⟩ : ∃ s, sideV x y u v p q = s := ⟨_, rfl⟩
  have SD0 := fun w => side_any x y u v p q w hx hy hu hv hp hq
  simp only [hs] at SD0
  have SD := Lib.hid SD0
  clear SD0
  have A1 := Lib.hid (fun w => amid_any x u p w)
  have A2 := Lib.hid (fun w => amid_any y v q w)
  rw [hs]
  clear hs hx hy hu hv hp hq
  obtain ⟨b1, hb1⟩ : ∃ b, decide ((if u < x then u else x) ≤ p ∧ p ≤ (if x < u then u else x)) = b := ⟨_, rfl⟩
  obtain ⟨b2, hb2⟩ : ∃ b, decide ((if v < y then v else y) ≤ q ∧ q ≤ (if y < v then v else y)) = b := ⟨_, rfl⟩
  rw [hb1, hb2]
  have B1 := Lib.hid (show ∀ w : World, Calls Try.prog 38 #[.int .i64 x, .int .i64 u, .int .i64 p] w fun e w' => e = .returned (.bool b1) ∧ w = w' from fun w => by rw [← hb1]; exact A1.out w)
  have B2 := Lib.hid (show ∀ w : World, Calls Try.prog 38 #[.int .i64 y, .int .i64 v, .int .i64 q] w fun e w' => e = .returned (.bool b2) ∧ w = w' from fun w => by rw [← hb2]; exact A2.out w)
  clear A1 A2 hb1 hb2
  by_cases h0 : s = 0
  · have q0 : (s == 0) = true := by simpa using h0
    have HO := Lib.hid (show (decide (s = 0) && b1 && b2) = (b1 && b2) by rw [decide_eq_true h0]; rfl)
    clear h0
    go_enter Try.func14, Try.ntmps14
    go_wp2_with fail
    refine (SD.out _).mono ?_
    rintro e w1 ⟨rfl, h1⟩
    have z1 := h1.size
    simp at z1
    have hs : w.heap.size + 1 + 1 + 1 ≤ w1.heap.size := by omega
    have c1 : w1.cell? ⟨w.heap.size, 0, none⟩ = some (.int .i64 (x)) := (h1.cell (p := ⟨w.heap.size, 0, none⟩) (by simp; try omega)).trans (by first | simp | simp [go_sem])
    have c2 : w1.cell? ⟨w.heap.size, 1, none⟩ = some (.int .i64 (y)) := (h1.cell (p := ⟨w.heap.size, 1, none⟩) (by simp; try omega)).trans (by first | simp | simp [go_sem])
    have c3 : w1.cell? ⟨w.heap.size + 1, 0, none⟩ = some (.int .i64 (u)) := (h1.cell (p := ⟨w.heap.size + 1, 0, none⟩) (by simp; try omega)).trans (by first | simp | simp [go_sem])
    have c4 : w1.cell? ⟨w.heap.size + 1, 1, none⟩ = some (.int .i64 (v)) := (h1.cell (p := ⟨w.heap.size + 1, 1, none⟩) (by simp; try omega)).trans (by first | simp | simp [go_sem])
    have c5 : w1.cell? ⟨w.heap.size + 1 + 1, 0, none⟩ = some (.int .i64 (p)) := (h1.cell (p := ⟨w.heap.size + 1 + 1, 0, none⟩) (by simp; try omega)).trans (by first | simp | simp [go_sem])
    have c6 : w1.cell? ⟨w.heap.size + 1 + 1, 1, none⟩ = some (.int .i64 (q)) := (h1.cell (p := ⟨w.heap.size + 1 + 1, 1, none⟩) (by simp; try omega)).trans (by first | simp | simp [go_sem])
    have hb0 : Below w.heap.size w w1 := ((((Below.refl _ _).alloc (by simp; try omega) _).alloc (by simp; try omega) _).alloc (by simp; try omega) _).trans (h1.mono (by simp; try omega))
    clear h1 z1
    go_wp2_with fail
    refine (B1.out _).mono ?_
    rintro e z ⟨rfl, rfl⟩
    cases b1
    · go_wp2
      go_ret
      exact ⟨by rw [HO.out]; rfl, hb0⟩
    · go_wp2_with fail
      refine (B2.out _).mono ?_
      rintro e z ⟨rfl, rfl⟩
      go_wp2
      go_ret
      exact ⟨by rw [HO.out]; rfl, hb0⟩
  · have q0 : (s == 0) = false := by simpa using h0
    have HO := Lib.hid (show (decide (s = 0) && b1 && b2) = false by rw [decide_eq_false h0]; rfl)
    clear h0
    go_enter Try.func14, Try.ntmps14
    go_wp2_with fail
    refine (SD.out _).mono ?_
    rintro e w1 ⟨rfl, h1⟩
    have z1 := h1.size
    simp at z1
    have hs : w.heap.size + 1 + 1 + 1 ≤ w1.heap.size := by omega
    have c1 : w1.cell? ⟨w.heap.size, 0, none⟩ = some (.int .i64 (x)) := (h1.cell (p := ⟨w.heap.size, 0, none⟩) (by simp; try omega)).trans (by first | simp | simp [go_sem])
    have c2 : w1.cell? ⟨w.heap.size, 1, none⟩ = some (.int .i64 (y)) := (h1.cell (p := ⟨w.heap.size, 1, none⟩) (by simp; try omega)).trans (by first | simp | simp [go_sem])
    have c3 : w1.cell? ⟨w.heap.size + 1, 0, none⟩ = some (.int .i64 (u)) := (h1.cell (p := ⟨w.heap.size + 1, 0, none⟩) (by simp; try omega)).trans (by first | simp | simp [go_sem])
    have c4 : w1.cell? ⟨w.heap.size + 1, 1, none⟩ = some (.int .i64 (v)) := (h1.cell (p := ⟨w.heap.size + 1, 1, none⟩) (by simp; try omega)).trans (by first | simp | simp [go_sem])
    have c5 : w1.cell? ⟨w.heap.size + 1 + 1, 0, none⟩ = some (.int .i64 (p)) := (h1.cell (p := ⟨w.heap.size + 1 + 1, 0, none⟩) (by simp; try omega)).trans (by first | simp | simp [go_sem])
    have c6 : w1.cell? ⟨w.heap.size + 1 + 1, 1, none⟩ = some (.int .i64 (q)) := (h1.cell (p := ⟨w.heap.size + 1 + 1, 1, none⟩) (by simp; try omega)).trans (by first | simp | simp [go_sem])
    have hb0 : Below w.heap.size w w1 := ((((Below.refl _ _).alloc (by simp; try omega) _).alloc (by simp; try omega) _).alloc (by simp; try omega) _).trans (h1.mono (by simp; try omega))
    clear h1 z1
    go_wp2
    go_ret
    exact ⟨by rw [HO.out]; rfl, hb0⟩

theorem sharp_any (x y u v : Int) (w : World) (hx : -1073741824 ≤ x ∧ x ≤ 1073741824) (hy : -1073741824 ≤ y ∧ y ≤ 1073741824) (hu : -1073741824 ≤ u ∧ u ≤ 1073741824) (hv : -1073741824 ≤ v ∧ v ≤ 1073741824) :
    Calls Try.prog 18 #[P2 x y, P2 u v] w fun e w' => e = .returned (.bool (decide (dotN x y u v < 0))) ∧ Below w.heap.size w w' := by
  obtain ⟨d, hd⟩ : ∃ d, x * u + y * v = d := ⟨_, rfl⟩
  have e : dotN x y u v = d := hd
  rw [e]
  have DT0 := fun w => vdot_any x y u v w hx hy hu hv
  simp only [hd] at DT0
  have DT := Lib.hid DT0
  clear DT0
  clear e hd hx hy hu hv
  by_cases h0 : d < 0
  all_goals
    go_enter Try.func18, Try.ntmps18
    go_wp2_with fail
    refine (DT.out _).mono ?_
    rintro e w1 ⟨rfl, h1⟩
    go_wp2
    go_ret
    exact ⟨by simp [h0], (((Below.refl _ _).alloc (by simp) _).alloc (by simp) _).trans (h1.mono (by simp; omega))⟩

theorem quarter_any (x y : Int) (w : World) :
    Calls Try.prog 22 #[P2 x y] w fun e w' => e = .returned (.int .i64 (quarterV x y)) ∧ Below w.heap.size w w' := by
  obtain ⟨q, hq⟩ : ∃ q, quarterV x y = q := ⟨_, rfl⟩
  rw [hq]
  unfold quarterV at hq
  rcases Int.lt_trichotomy x 0 with sx | sx | sx <;> rcases Int.lt_trichotomy y 0 with sy | sy | sy
  · have q0x : ¬ 0 < x := by omega
    have q1x : ¬ 0 ≤ x := by omega
    have q2x : x < 0 := by omega
    have q3x : x ≤ 0 := by omega
    have q0y : ¬ 0 < y := by omega
    have q1y : ¬ 0 ≤ y := by omega
    have q2y : y < 0 := by omega
    have q3y : y ≤ 0 := by omega
    obtain rfl : q = 2 := by rw [← hq]; rw [if_neg (by omega), if_neg (by omega), if_pos (by omega)]
    clear hq sx sy
    go_enter Try.func22, Try.ntmps22
    go_wp2
    go_ret
    exact ⟨rfl, (Below.refl _ _).alloc (by simp) _⟩
  · have q0x : ¬ 0 < x := by omega
    have q1x : ¬ 0 ≤ x := by omega
    have q2x : x < 0 := by omega
    have q3x : x ≤ 0 := by omega
    have q0y : ¬ 0 < y := by omega
    have q1y : 0 ≤ y := by omega
    have q2y : ¬ y < 0 := by omega
    have q3y : y ≤ 0 := by omega
    obtain rfl : q = 2 := by rw [← hq]; rw [if_neg (by omega), if_neg (by omega), if_pos (by omega)]
    clear hq sx sy
    go_enter Try.func22, Try.ntmps22
    go_wp2
    go_ret
    exact ⟨rfl, (Below.refl _ _).alloc (by simp) _⟩
  · have q0x : ¬ 0 < x := by omega
    have q1x : ¬ 0 ≤ x := by omega
    have q2x : x < 0 := by omega
    have q3x : x ≤ 0 := by omega
    have q0y : 0 < y := by omega
    have q1y : 0 ≤ y := by omega
    have q2y : ¬ y < 0 := by omega
    have q3y : ¬ y ≤ 0 := by omega
    obtain rfl : q = 1 := by rw [← hq]; rw [if_neg (by omega), if_pos (by omega)]
    clear hq sx sy
    go_enter Try.func22, Try.ntmps22
    go_wp2
    go_ret
    exact ⟨rfl, (Below.refl _ _).alloc (by simp) _⟩
  · have q0x : ¬ 0 < x := by omega
    have q1x : 0 ≤ x := by omega
    have q2x : ¬ x < 0 := by omega
    have q3x : x ≤ 0 := by omega
    have q0y : ¬ 0 < y := by omega
    have q1y : ¬ 0 ≤ y := by omega
    have q2y : y < 0 := by omega
    have q3y : y ≤ 0 := by omega
    obtain rfl : q = 3 := by rw [← hq]; rw [if_neg (by omega), if_neg (by omega), if_neg (by omega), if_pos (by omega)]
    clear hq sx sy
    go_enter Try.func22, Try.ntmps22
    go_wp2
    go_ret
    exact ⟨rfl, (Below.refl _ _).alloc (by simp) _⟩
  · have q0x : ¬ 0 < x := by omega
    have q1x : 0 ≤ x := by omega
    have q2x : ¬ x < 0 := by omega
    have q3x : x ≤ 0 := by omega
    have q0y : ¬ 0 < y := by omega
    have q1y : 0 ≤ y := by omega
    have q2y : ¬ y < 0 := by omega
    have q3y : y ≤ 0 := by omega
    obtain rfl : q = 0 := by rw [← hq]; first | rw [if_pos (by omega)] | rw [if_neg (by omega), if_neg (by omega), if_neg (by omega), if_neg (by omega)]
    clear hq sx sy
    go_enter Try.func22, Try.ntmps22
    go_wp2
    go_ret
    exact ⟨rfl, (Below.refl _ _).alloc (by simp) _⟩
  · have q0x : ¬ 0 < x := by omega
    have q1x : 0 ≤ x := by omega
    have q2x : ¬ x < 0 := by omega
    have q3x : x ≤ 0 := by omega
    have q0y : 0 < y := by omega
    have q1y : 0 ≤ y := by omega
    have q2y : ¬ y < 0 := by omega
    have q3y : ¬ y ≤ 0 := by omega
    obtain rfl : q = 1 := by rw [← hq]; rw [if_neg (by omega), if_pos (by omega)]
    clear hq sx sy
    go_enter Try.func22, Try.ntmps22
    go_wp2
    go_ret
    exact ⟨rfl, (Below.refl _ _).alloc (by simp) _⟩
  · have q0x : 0 < x := by omega
    have q1x : 0 ≤ x := by omega
    have q2x : ¬ x < 0 := by omega
    have q3x : ¬ x ≤ 0 := by omega
    have q0y : ¬ 0 < y := by omega
    have q1y : ¬ 0 ≤ y := by omega
    have q2y : y < 0 := by omega
    have q3y : y ≤ 0 := by omega
    obtain rfl : q = 3 := by rw [← hq]; rw [if_neg (by omega), if_neg (by omega), if_neg (by omega), if_pos (by omega)]
    clear hq sx sy
    go_enter Try.func22, Try.ntmps22
    go_wp2
    go_ret
    exact ⟨rfl, (Below.refl _ _).alloc (by simp) _⟩
  · have q0x : 0 < x := by omega
    have q1x : 0 ≤ x := by omega
    have q2x : ¬ x < 0 := by omega
    have q3x : ¬ x ≤ 0 := by omega
    have q0y : ¬ 0 < y := by omega
    have q1y : 0 ≤ y := by omega
    have q2y : ¬ y < 0 := by omega
    have q3y : y ≤ 0 := by omega
    obtain rfl : q = 0 := by rw [← hq]; first | rw [if_pos (by omega)] | rw [if_neg (by omega), if_neg (by omega), if_neg (by omega), if_neg (by omega)]
    clear hq sx sy
    go_enter Try.func22, Try.ntmps22
    go_wp2
    go_ret
    exact ⟨rfl, (Below.refl _ _).alloc (by simp) _⟩
  · have q0x : 0 < x := by omega
    have q1x : 0 ≤ x := by omega
    have q2x : ¬ x < 0 := by omega
    have q3x : ¬ x ≤ 0 := by omega
    have q0y : 0 < y := by omega
    have q1y : 0 ≤ y := by omega
    have q2y : ¬ y < 0 := by omega
    have q3y : ¬ y ≤ 0 := by omega
    obtain rfl : q = 0 := by rw [← hq]; first | rw [if_pos (by omega)] | rw [if_neg (by omega), if_neg (by omega), if_neg (by omega), if_neg (by omega)]
    clear hq sx sy
    go_enter Try.func22, Try.ntmps22
    go_wp2
    go_ret
    exact ⟨rfl, (Below.refl _ _).alloc (by simp) _⟩


theorem before_any (x y u v : Int) (w : World) (hx : -1073741824 ≤ x ∧ x ≤ 1073741824) (hy : -1073741824 ≤ y ∧ y ≤ 1073741824) (hu : -1073741824 ≤ u ∧ u ≤ 1073741824) (hv : -1073741824 ≤ v ∧ v ≤ 1073741824) :
    Calls Try.prog 24 #[P2 x y, P2 u v] w fun e w' => e = .returned (.bool (beforeV x y u v)) ∧ Below w.heap.size w w' := by
  obtain ⟨q, hq⟩ : ∃ q, quarterV x y = q := ⟨_, rfl⟩
  obtain ⟨r, hr⟩ : ∃ r, quarterV u v = r := ⟨_, rfl⟩
  obtain ⟨d, hd⟩ : ∃ d, x * v - y * u = d := ⟨_, rfl⟩
  obtain ⟨o, ho⟩ : ∃ o, beforeV x y u v = o := ⟨_, rfl⟩
  rw [ho]
  have HO := Lib.hid (show decide (q < r ∨ (q = r ∧ 0 < d)) = o by rw [← ho]; unfold beforeV crossN; rw [hq, hr, hd])
  have QA0 := fun w => quarter_any x y w
  simp only [hq] at QA0
  have QA := Lib.hid QA0
  clear QA0
  have QB0 := fun w => quarter_any u v w
  simp only [hr] at QB0
  have QB := Lib.hid QB0
  clear QB0
  have CR0 := fun w => vcross_any x y u v w hx hy hu hv
  simp only [hd] at CR0
  have CR := Lib.hid CR0
  clear CR0
  clear hq hr hd ho hx hy hu hv
  by_cases h1 : q < r
  · have F := Lib.hid (show true = o by rw [← HO.out]; simp [h1])
    have g1 : (q != r) = true := by simp; omega
    have g2 : (q == r) = false := by simp; omega
    go_enter Try.func24, Try.ntmps24
    go_upto_region 1 with fail
    refine any_gen (fun w' => w'.cell? ⟨w.heap.size, 0, none⟩ = some (.int .i64 (x)) ∧ w'.cell? ⟨w.heap.size, 1, none⟩ = some (.int .i64 (y)) ∧ w'.cell? ⟨w.heap.size + 1, 0, none⟩ = some (.int .i64 (u)) ∧ w'.cell? ⟨w.heap.size + 1, 1, none⟩ = some (.int .i64 (v)) ∧ w.heap.size + 1 + 1 ≤ w'.heap.size ∧ Below w.heap.size w w') ⟨by simp [go_sem], by simp [go_sem], by simp [go_sem], by simp [go_sem], ?siz, ?bel⟩ ?_
    case siz => simp
    case bel => repeat (first | exact Below.refl _ _ | refine below_dN ?_ _ | refine Below.setCell ?_ (by simp; try omega) _ | refine Below.alloc ?_ (by simp; try omega) _)
    rintro w0 ⟨c1, c2, c3, c4, hs, hb0⟩
    first | (go_region_held3 (fun w' => w'.cell? ⟨w.heap.size, 0, none⟩ = some (.int .i64 (x)) ∧ w'.cell? ⟨w.heap.size, 1, none⟩ = some (.int .i64 (y)) ∧ w'.cell? ⟨w.heap.size + 1, 0, none⟩ = some (.int .i64 (u)) ∧ w'.cell? ⟨w.heap.size + 1, 1, none⟩ = some (.int .i64 (v)) ∧ Below w0.heap.size w0 w') ((first | assumption | exact ⟨by simp [*], by simp [*], by simp [*], by simp [*], (Below.refl _ _).drew⟩ | exact keep4 ‹_› hb (by (try dsimp only); omega) (by (try dsimp only); omega) (by (try dsimp only); omega) (by (try dsimp only); omega) | exact keepA4 ‹_› _ (by (try dsimp only); omega) (by (try dsimp only); omega) (by (try dsimp only); omega) (by (try dsimp only); omega) | exact keepS4 (keepS4 ‹_› _ _ (by (try dsimp only); omega) (by (try dsimp only); omega) (by (try dsimp only); omega) (by (try dsimp only); omega) (by (try dsimp only); omega)) _ _ (by (try dsimp only); omega) (by (try dsimp only); omega) (by (try dsimp only); omega) (by (try dsimp only); omega) (by (try dsimp only); omega))) ((first | (go_at_call 22; with_reducible refine (QA.out _).mono ?_; rintro e w' ⟨rfl, hb⟩) | (go_at_call 22; with_reducible refine (QB.out _).mono ?_; rintro e w' ⟨rfl, hb⟩)))) | fail
    refine any_gen (fun z => z.cell? ⟨w.heap.size, 0, none⟩ = some (.int .i64 (x)) ∧ z.cell? ⟨w.heap.size, 1, none⟩ = some (.int .i64 (y)) ∧ z.cell? ⟨w.heap.size + 1, 0, none⟩ = some (.int .i64 (u)) ∧ z.cell? ⟨w.heap.size + 1, 1, none⟩ = some (.int .i64 (v)) ∧ w0.heap.size ≤ z.heap.size ∧ Below w.heap.size w z) (next4 ‹_ ∧ _› (by omega) hb0) ?_
    clear c1 c2 c3 c4 hb0
    rintro w1 ⟨c1, c2, c3, c4, hsz, hb0⟩
    replace hs := Nat.le_trans hs hsz
    clear hsz
    go_wp2
    go_ret
    exact ⟨by rw [← F.out]; first | rfl | (simp [*] <;> omega), hb0⟩
  · by_cases h2 : q = r
    · have F := Lib.hid (show decide (0 < d) = o by rw [← HO.out, decide_eq_decide]; omega)
      have g1 : (q != r) = false := by simp; exact h2
      have g2 : (q == r) = true := by simp; exact h2
      have H2 := Lib.hid h2
      clear h2
      by_cases h4 : 0 < d
      all_goals
        go_enter Try.func24, Try.ntmps24
        go_upto_region 1 with fail
        refine any_gen (fun w' => w'.cell? ⟨w.heap.size, 0, none⟩ = some (.int .i64 (x)) ∧ w'.cell? ⟨w.heap.size, 1, none⟩ = some (.int .i64 (y)) ∧ w'.cell? ⟨w.heap.size + 1, 0, none⟩ = some (.int .i64 (u)) ∧ w'.cell? ⟨w.heap.size + 1, 1, none⟩ = some (.int .i64 (v)) ∧ w.heap.size + 1 + 1 ≤ w'.heap.size ∧ Below w.heap.size w w') ⟨by simp [go_sem], by simp [go_sem], by simp [go_sem], by simp [go_sem], ?siz, ?bel⟩ ?_
        case siz => simp
        case bel => repeat (first | exact Below.refl _ _ | refine below_dN ?_ _ | refine Below.setCell ?_ (by simp; try omega) _ | refine Below.alloc ?_ (by simp; try omega) _)
        rintro w0 ⟨c1, c2, c3, c4, hs, hb0⟩
        first | (go_region_held3 (fun w' => w'.cell? ⟨w.heap.size, 0, none⟩ = some (.int .i64 (x)) ∧ w'.cell? ⟨w.heap.size, 1, none⟩ = some (.int .i64 (y)) ∧ w'.cell? ⟨w.heap.size + 1, 0, none⟩ = some (.int .i64 (u)) ∧ w'.cell? ⟨w.heap.size + 1, 1, none⟩ = some (.int .i64 (v)) ∧ Below w0.heap.size w0 w') ((first | assumption | exact ⟨by simp [*], by simp [*], by simp [*], by simp [*], (Below.refl _ _).drew⟩ | exact keep4 ‹_› hb (by (try dsimp only); omega) (by (try dsimp only); omega) (by (try dsimp only); omega) (by (try dsimp only); omega) | exact keepA4 ‹_› _ (by (try dsimp only); omega) (by (try dsimp only); omega) (by (try dsimp only); omega) (by (try dsimp only); omega) | exact keepS4 (keepS4 ‹_› _ _ (by (try dsimp only); omega) (by (try dsimp only); omega) (by (try dsimp only); omega) (by (try dsimp only); omega) (by (try dsimp only); omega)) _ _ (by (try dsimp only); omega) (by (try dsimp only); omega) (by (try dsimp only); omega) (by (try dsimp only); omega) (by (try dsimp only); omega))) ((first | (go_at_call 22; with_reducible refine (QA.out _).mono ?_; rintro e w' ⟨rfl, hb⟩) | (go_at_call 22; with_reducible refine (QB.out _).mono ?_; rintro e w' ⟨rfl, hb⟩)))) | fail
        refine any_gen (fun z => z.cell? ⟨w.heap.size, 0, none⟩ = some (.int .i64 (x)) ∧ z.cell? ⟨w.heap.size, 1, none⟩ = some (.int .i64 (y)) ∧ z.cell? ⟨w.heap.size + 1, 0, none⟩ = some (.int .i64 (u)) ∧ z.cell? ⟨w.heap.size + 1, 1, none⟩ = some (.int .i64 (v)) ∧ w0.heap.size ≤ z.heap.size ∧ Below w.heap.size w z) (next4 ‹_ ∧ _› (by omega) hb0) ?_
        clear c1 c2 c3 c4 hb0
        rintro w1 ⟨c1, c2, c3, c4, hsz, hb0⟩
        replace hs := Nat.le_trans hs hsz
        clear hsz
        go_wp2_with fail
        refine (CR.out _).mono ?_
        rintro e w3 ⟨rfl, h3⟩
        have hb0 := hb0.trans (h3.mono (by omega))
        go_wp2
        go_ret
        exact ⟨by rw [← F.out]; first | rfl | (simp [*] <;> omega), hb0⟩
    · have F := Lib.hid (show false = o by rw [← HO.out]; simp; omega)
      have g1 : (q != r) = true := by simp; exact h2
      have g2 : (q == r) = false := by simp; exact h2
      clear h2
      go_enter Try.func24, Try.ntmps24
      go_upto_region 1 with fail
      refine any_gen (fun w' => w'.cell? ⟨w.heap.size, 0, none⟩ = some (.int .i64 (x)) ∧ w'.cell? ⟨w.heap.size, 1, none⟩ = some (.int .i64 (y)) ∧ w'.cell? ⟨w.heap.size + 1, 0, none⟩ = some (.int .i64 (u)) ∧ w'.cell? ⟨w.heap.size + 1, 1, none⟩ = some (.int .i64 (v)) ∧ w.heap.size + 1 + 1 ≤ w'.heap.size ∧ Below w.heap.size w w') ⟨by simp [go_sem], by simp [go_sem], by simp [go_sem], by simp [go_sem], ?siz, ?bel⟩ ?_
      case siz => simp
      case bel => repeat (first | exact Below.refl _ _ | refine below_dN ?_ _ | refine Below.setCell ?_ (by simp; try omega) _ | refine Below.alloc ?_ (by simp; try omega) _)
      rintro w0 ⟨c1, c2, c3, c4, hs, hb0⟩
      first | (go_region_held3 (fun w' => w'.cell? ⟨w.heap.size, 0, none⟩ = some (.int .i64 (x)) ∧ w'.cell? ⟨w.heap.size, 1, none⟩ = some (.int .i64 (y)) ∧ w'.cell? ⟨w.heap.size + 1, 0, none⟩ = some (.int .i64 (u)) ∧ w'.cell? ⟨w.heap.size + 1, 1, none⟩ = some (.int .i64 (v)) ∧ Below w0.heap.size w0 w') ((first | assumption | exact ⟨by simp [*], by simp [*], by simp [*], by simp [*], (Below.refl _ _).drew⟩ | exact keep4 ‹_› hb (by (try dsimp only); omega) (by (try dsimp only); omega) (by (try dsimp only); omega) (by (try dsimp only); omega) | exact keepA4 ‹_› _ (by (try dsimp only); omega) (by (try dsimp only); omega) (by (try dsimp only); omega) (by (try dsimp only); omega) | exact keepS4 (keepS4 ‹_› _ _ (by (try dsimp only); omega) (by (try dsimp only); omega) (by (try dsimp only); omega) (by (try dsimp only); omega) (by (try dsimp only); omega)) _ _ (by (try dsimp only); omega) (by (try dsimp only); omega) (by (try dsimp only); omega) (by (try dsimp only); omega) (by (try dsimp only); omega))) ((first | (go_at_call 22; with_reducible refine (QA.out _).mono ?_; rintro e w' ⟨rfl, hb⟩) | (go_at_call 22; with_reducible refine (QB.out _).mono ?_; rintro e w' ⟨rfl, hb⟩)))) | fail
      refine any_gen (fun z => z.cell? ⟨w.heap.size, 0, none⟩ = some (.int .i64 (x)) ∧ z.cell? ⟨w.heap.size, 1, none⟩ = some (.int .i64 (y)) ∧ z.cell? ⟨w.heap.size + 1, 0, none⟩ = some (.int .i64 (u)) ∧ z.cell? ⟨w.heap.size + 1, 1, none⟩ = some (.int .i64 (v)) ∧ w0.heap.size ≤ z.heap.size ∧ Below w.heap.size w z) (next4 ‹_ ∧ _› (by omega) hb0) ?_
      clear c1 c2 c3 c4 hb0
      rintro w1 ⟨c1, c2, c3, c4, hsz, hb0⟩
      replace hs := Nat.le_trans hs hsz
      clear hsz
      go_wp2
      go_ret
      exact ⟨by rw [← F.out]; first | rfl | (simp [*] <;> omega), hb0⟩

theorem miter_any (x y u v l : Int) (w : World) (hx : -1073741824 ≤ x ∧ x ≤ 1073741824) (hy : -1073741824 ≤ y ∧ y ≤ 1073741824) (hu : -1073741824 ≤ u ∧ u ≤ 1073741824) (hv : -1073741824 ≤ v ∧ v ≤ 1073741824) (hl : -9223372036854775808 ≤ l ∧ l ≤ 9223372036854775807) :
    Calls Try.prog 20 #[P2 x y, P2 u v, .int .i64 l] w fun e w' => e = .returned (.bool (miterV x y u v l)) ∧ Below w.heap.size w w' := by
  by_cases h0 : l < 1
  · rw [miter_low (by omega)]
    clear hl
    go_enter Try.func20, Try.ntmps20
    go_wp2
    go_ret
    exact ⟨rfl, ((Below.refl _ _).alloc (by simp) _).alloc (by simp) _⟩
  · rw [miter_is x y u v l (by omega)]
    obtain ⟨m, hm⟩ : ∃ m, (if 64 < l then 64 else l) = m := ⟨_, rfl⟩
    have hm2 : min l 64 = m := by rw [← hm, Int.min_def]; split <;> split <;> omega
    have hm3 : (if l < 64 then l else 64) = m := by rw [← hm]; split <;> split <;> omega
    have bm : 1 ≤ m ∧ m ≤ 64 := by rw [← hm]; split <;> omega
    have p1 := prod_30 x x hx hx
    have p2 := prod_30 y y hy hy
    have p3 := prod_30 x u hx hu
    have p4 := prod_30 y v hy hv
    obtain ⟨n, hn⟩ : ∃ n, x * x + y * y = n := ⟨_, rfl⟩
    obtain ⟨d, hd⟩ : ∃ d, x * u + y * v = d := ⟨_, rfl⟩
    have bn : -2305843009213693952 ≤ n ∧ n ≤ 2305843009213693952 := by omega
    have bd : -2305843009213693952 ≤ d ∧ d ≤ 2305843009213693952 := by omega
    rw [hm, hn, hd]
    have pm := prod_near m m 64 64 (by omega) (by omega) (by omega) (by omega)
    obtain ⟨k, hk⟩ : ∃ k, m * m = k := ⟨_, rfl⟩
    rw [hk] at pm ⊢
    have bk : 0 ≤ k ∧ k ≤ 4096 := by refine ⟨?_, by omega⟩; rw [← hk]; exact Int.mul_nonneg (by omega) (by omega)
    obtain ⟨f, hf⟩ : ∃ f, n + d = f := ⟨_, rfl⟩
    have bf : -4611686018427387904 ≤ f ∧ f ≤ 4611686018427387904 := by omega
    rw [hf]
    have pq := prod_near k f 4096 4611686018427387904 (by omega) bf (by omega) (by omega)
    obtain ⟨r, hr⟩ : ∃ r, k * f = r := ⟨_, rfl⟩
    rw [hr] at pq ⊢
    obtain ⟨q, hq⟩ : ∃ q, 2 * n = q := ⟨_, rfl⟩
    rw [hq]
    obtain ⟨c, hc⟩ : ∃ c, cmpN q r = c := ⟨_, rfl⟩
    rw [hc]
    have DN0 := fun w => vdot_any x y x y w hx hy hx hy
    simp only [hn] at DN0
    have DN := Lib.hid DN0
    clear DN0
    have DD0 := fun w => vdot_any x y u v w hx hy hu hv
    simp only [hd] at DD0
    have DD := Lib.hid DD0
    clear DD0
    obtain ⟨wm, hwm⟩ : ∃ c, W q = c := ⟨_, rfl⟩
    obtain ⟨wn, hwn⟩ : ∃ c, W r = c := ⟨_, rfl⟩
    have MA0 := fun w => product_any 2 n q w hq (by omega) (by omega)
    simp only [hwm] at MA0
    have MA := Lib.hid MA0
    clear MA0
    have MB0 := fun w => product_any k f r w hr (by omega) (by omega)
    simp only [hwn] at MB0
    have MB := Lib.hid MB0
    clear MB0
    have CM0 := fun w => cmp_any q r w (by unfold In; omega) (by unfold In; omega)
    simp only [hc] at CM0
    simp only [hwm, hwn] at CM0
    have CM := Lib.hid CM0
    clear CM0
    clear hwm hwn
    have e1 : wrap64 k = k := by unfold wrap64; omega
    have e2 : wrap64 f = f := by unfold wrap64; omega
    have e3 : IntKind.i64.wrap k = k := IntWalk.i64_in _ (by omega)
    have e4 : IntKind.i64.wrap f = f := IntWalk.i64_in _ (by omega)
    have H0 := Lib.hid h0
    have h0 : ¬ l < 1 := h0
    clear hl hn hd hq hr hc p1 p2 p3 p4 pm pq bn bd bf bm bk hx hy hu hv
    go_enter Try.func20, Try.ntmps20
    go_upto_region 4 with fail
    refine any_gen (fun w' => w'.cell? ⟨w.heap.size, 0, none⟩ = some (.int .i64 (x)) ∧ w'.cell? ⟨w.heap.size, 1, none⟩ = some (.int .i64 (y)) ∧ w'.cell? ⟨w.heap.size + 1, 0, none⟩ = some (.int .i64 (u)) ∧ w'.cell? ⟨w.heap.size + 1, 1, none⟩ = some (.int .i64 (v)) ∧ w.heap.size + 1 + 1 ≤ w'.heap.size ∧ Below w.heap.size w w') ⟨by simp [go_sem], by simp [go_sem], by simp [go_sem], by simp [go_sem], ?siz, ?bel⟩ ?_
    case siz => simp
    case bel => repeat (first | exact Below.refl _ _ | refine below_dN ?_ _ | refine Below.setCell ?_ (by simp; try omega) _ | refine Below.alloc ?_ (by simp; try omega) _)
    rintro w0 ⟨c1, c2, c3, c4, hs, hb0⟩
    first | (go_region_held3 (fun w' => w'.cell? ⟨w.heap.size, 0, none⟩ = some (.int .i64 (x)) ∧ w'.cell? ⟨w.heap.size, 1, none⟩ = some (.int .i64 (y)) ∧ w'.cell? ⟨w.heap.size + 1, 0, none⟩ = some (.int .i64 (u)) ∧ w'.cell? ⟨w.heap.size + 1, 1, none⟩ = some (.int .i64 (v)) ∧ Below w0.heap.size w0 w') ((first | assumption | exact ⟨by simp [*], by simp [*], by simp [*], by simp [*], (Below.refl _ _).drew⟩ | exact keep4 ‹_› hb (by (try dsimp only); omega) (by (try dsimp only); omega) (by (try dsimp only); omega) (by (try dsimp only); omega) | exact keepA4 ‹_› _ (by (try dsimp only); omega) (by (try dsimp only); omega) (by (try dsimp only); omega) (by (try dsimp only); omega) | exact keepS4 (keepS4 ‹_› _ _ (by (try dsimp only); omega) (by (try dsimp only); omega) (by (try dsimp only); omega) (by (try dsimp only); omega) (by (try dsimp only); omega)) _ _ (by (try dsimp only); omega) (by (try dsimp only); omega) (by (try dsimp only); omega) (by (try dsimp only); omega) (by (try dsimp only); omega))) ((first | (go_at_call 40; with_reducible refine (DN.out _).mono ?_; rintro e w' ⟨rfl, hb⟩) | (go_at_call 40; with_reducible refine (DD.out _).mono ?_; rintro e w' ⟨rfl, hb⟩)))) | fail
    refine any_gen (fun z => z.cell? ⟨w.heap.size, 0, none⟩ = some (.int .i64 (x)) ∧ z.cell? ⟨w.heap.size, 1, none⟩ = some (.int .i64 (y)) ∧ z.cell? ⟨w.heap.size + 1, 0, none⟩ = some (.int .i64 (u)) ∧ z.cell? ⟨w.heap.size + 1, 1, none⟩ = some (.int .i64 (v)) ∧ w0.heap.size ≤ z.heap.size ∧ Below w.heap.size w z) (next4 ‹_ ∧ _› (by omega) hb0) ?_
    clear c1 c2 c3 c4 hb0
    rintro w1 ⟨c1, c2, c3, c4, hsz, hb0⟩
    replace hs := Nat.le_trans hs hsz
    clear hsz
    go_wp2_with fail
    refine (MA.out _).mono ?_
    rintro e w2 ⟨rfl, h2⟩
    have hb2 := hb0.trans (h2.mono (by omega))
    have z2 := h2.size
    clear h2
    go_wp2_with fail
    refine (MB.out _).mono ?_
    rintro e w3 ⟨rfl, h3⟩
    have hb3 := hb2.trans (h3.mono (by omega))
    have z3 := h3.size
    clear h3
    go_wp2_with fail
    refine (CM.out _).mono ?_
    rintro e w4 ⟨rfl, h4⟩
    have hF := hb3.trans (h4.mono (by omega))
    clear h4
    by_cases hc0 : c ≤ 0
    all_goals
      go_wp2
      go_ret
      exact ⟨by simp [*], hF⟩

end Go.Proofs.Ytfgkndfcddnhlaa
