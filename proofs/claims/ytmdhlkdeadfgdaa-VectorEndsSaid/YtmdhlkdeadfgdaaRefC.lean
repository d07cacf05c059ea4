/- What the document's own wide numbers answer: Div. -/
import Derived.Test.YtmdhlkdeadfgdaaRefA
import Derived.Test.YtmdhlkdeadfgdaaMore
import Derived.Test.YtmdhlkdeadfgdaaBitNum
namespace Go.Proofs.Ytmdhlkdeadfgdaa
open Go.RowKit
set_option linter.unusedVariables false
set_option linter.unusedSimpArgs false
set_option maxHeartbeats 2000000

theorem rdiv_err (a b : Int) (w : World) (hb : b ≤ 0) :
    Calls Try.prog 43 #[W a, .int .i64 b] w fun e w' => e = .returned (.tuple #[W 0, .int .i64 0, .int .i64 1]) ∧ Below w.heap.size w w' := by
  go_enter Try.func43, Try.ntmps43
  go_wp2
  refine bodyPost_ret (by simp [results, Try.results43, go_sem]; rfl) rfl ⟨?_, ?_⟩
  · rw [W, hi_0, lo_0]
  · repeat (first | exact Below.refl _ _ | refine Below.alloc ?_ (by simp; try omega) _)

/-- What the loop keeps: the quotient's box at block g, the result's at block t. -/
structure Keep (w : World) (g t : Nat) (Q : Int) (wr : World) : Prop where
  c0 : wr.cell? ⟨g, 0, none⟩ = some (.int .i64 (hi Q))
  c1 : wr.cell? ⟨g, 1, none⟩ = some (.int .u64 (lo Q))
  f0 : wr.frozen? ⟨g, 0, none⟩ = false
  f1 : wr.frozen? ⟨g, 1, none⟩ = false
  own : OwnN t 2 wr
  gl : g < wr.heap.size
  tl : t < wr.heap.size
  ne : g ≠ t
  gb : w.heap.size ≤ g
  tb : w.heap.size ≤ t
  bel : Below w.heap.size w wr
theorem Keep.step {w : World} {g t : Nat} {Q : Int} {x y : World} (k : Keep w g t Q x) (hb : Below x.heap.size x y) : Keep w g t Q y :=
  ⟨(hb.cell (p := ⟨g, 0, none⟩) k.gl).trans k.c0, (hb.cell (p := ⟨g, 1, none⟩) k.gl).trans k.c1, (hb.frozen (p := ⟨g, 0, none⟩) k.gl).trans k.f0, (hb.frozen (p := ⟨g, 1, none⟩) k.gl).trans k.f1,
    k.own.below hb k.tl, Nat.lt_of_lt_of_le k.gl hb.size, Nat.lt_of_lt_of_le k.tl hb.size, k.ne, k.gb, k.tb, k.bel.trans (hb.mono (by have := k.bel.size; omega))⟩
theorem Keep.put {w : World} {g t : Nat} {Q : Int} {x : World} (k : Keep w g t Q x) (Q' : Int) : Keep w g t Q' ((x.setCell ⟨g, 0, none⟩ (.int .i64 (hi Q'))).setCell ⟨g, 1, none⟩ (.int .u64 (lo Q'))) :=
  ⟨by rw [World.cell?_setCell_other _ _ _ _ (by simp)]; exact World.cell?_setCell_same _ _ _ k.c0, World.cell?_setCell_same _ _ _ ((World.cell?_setCell_other _ _ _ _ (by simp)).trans k.c1),
    by rw [World.frozen?_setCell, World.frozen?_setCell]; exact k.f0, by rw [World.frozen?_setCell, World.frozen?_setCell]; exact k.f1,
    (k.own.setCell _ _).setCell _ _, by simpa [World.setCell] using k.gl, by simpa [World.setCell] using k.tl, k.ne, k.gb, k.tb, (k.bel.setCell k.gb _).setCell k.gb _⟩
theorem Keep.drew {w : World} {g t : Nat} {Q : Int} {x : World} (k : Keep w g t Q x) : Keep w g t Q x.drew := ⟨k.c0, k.c1, k.f0, k.f1, k.own, k.gl, k.tl, k.ne, k.gb, k.tb, k.bel.drew⟩

theorem ret_val {k : IntKind} {a b : Int} (h : a = b) : Value.int k a = Value.int k b := by rw [h]
theorem rounds_words (H L : Nat) (hH : H < 18446744073709551616) (hL : L < 18446744073709551616) :
    IntKind.u64.wrap (IntKind.u64.wrap ((H : Int) * 2) + (L : Int) / 9223372036854775808) = (((H * 2 + L / 9223372036854775808) % 18446744073709551616 : Nat) : Int) ∧
    IntKind.u64.wrap ((L : Int) * 2) = ((L * 2 % 18446744073709551616 : Nat) : Int) := by
  simp only [IntKind.wrap_u64]
  omega

theorem rdiv_pos (a : Int) (b A : Nat) (w : World) (ia : In a) (hb : 1 ≤ b ∧ b ≤ 9223372036854775807) (h0 : 0 ≤ a) (hA : a = (A : Int)) :
    Calls Try.prog 43 #[W a, .int .i64 b] w fun e w' => e = .returned (.tuple #[W (a / b), .int .i64 (a % b), .int .i64 0]) ∧ Below w.heap.size w w' := by
  have b0 : decide ((b : Int) ≤ 0) = false := by simp; omega
  have b0' : decide (b = 0) = false := by simp; omega
  have b1 : IntKind.u64.wrap (b : Int) = b := by rw [IntKind.wrap_u64]; omega
  have b2 : (1 : Int) ≤ b ∧ (b : Int) ≤ 9223372036854775807 := by omega
  have z1 := hi_0
  have z2 := lo_0
  have HA := Lib.hid hA
  obtain ⟨H0, hH0⟩ : ∃ H0 : Nat, IntKind.u64.wrap (hi a) = H0 := ⟨(IntKind.u64.wrap (hi a)).toNat, by rw [IntKind.wrap_u64]; omega⟩
  obtain ⟨L0, hL0⟩ : ∃ L0 : Nat, lo a = L0 := ⟨(lo a).toNat, by have := lo_bd a; omega⟩
  have HS := Lib.hid (show H0 * 18446744073709551616 + L0 = A ∧ L0 < 18446744073709551616 ∧ A < 340282366920938463463374607431768211456 by
    rw [IntKind.wrap_u64] at hH0; unfold In at ia; unfold hi lo at *; omega)
  have n0 : decide (hi a < 0) = false := by unfold In at ia; unfold hi; simp; omega
  clear hA
  go_enter Try.func43, Try.ntmps43
  go_wp2
  go_loopw [8, 9, 11, 12] (fun h l r i wr => ∃ (k H L R Q : Nat), k ≤ 128 ∧ i = .int .i64 k ∧ h = .int .u64 H ∧ l = .int .u64 L ∧ r = .int .u64 R ∧ Bt.Inv A b (128 - k) H L R Q ∧ Keep w (w.heap.size + 1 + 1) (w.heap.size + 1) Q wr) (fun _ _ _ i _ => 128 - (intOf i).toNat)
  case atStart => exact ⟨0, H0, L0, 0, 0, by omega, rfl, rfl, rfl, rfl, Bt.start A b H0 L0 (by omega) HS.out.2.2 HS.out.1 HS.out.2.1, Keep.mk (by first | (simp [go_sem, z1, z2]; done) | (simp [go_sem, z1, z2]; omega) | omega) (by first | (simp [go_sem, z1, z2]; done) | (simp [go_sem, z1, z2]; omega) | omega) (by first | (simp [go_sem, z1, z2]; done) | (simp [go_sem, z1, z2]; omega) | omega) (by first | (simp [go_sem, z1, z2]; done) | (simp [go_sem, z1, z2]; omega) | omega) (OwnN.of_two ⟨_, by simp [go_sem]; rfl⟩ (by simp [go_sem]) ⟨_, by simp [go_sem]; rfl⟩ (by simp [go_sem])) (by first | (simp [go_sem, z1, z2]; done) | (simp [go_sem, z1, z2]; omega) | omega) (by first | (simp [go_sem, z1, z2]; done) | (simp [go_sem, z1, z2]; omega) | omega) (by first | (simp [go_sem, z1, z2]; done) | (simp [go_sem, z1, z2]; omega) | omega) (by first | (simp [go_sem, z1, z2]; done) | (simp [go_sem, z1, z2]; omega) | omega) (by first | (simp [go_sem, z1, z2]; done) | (simp [go_sem, z1, z2]; omega) | omega) ((((Below.refl _ _).alloc (by simp) _).alloc (by simp) _).alloc (by first | (simp [go_sem, z1, z2]; done) | (simp [go_sem, z1, z2]; omega) | omega) _)⟩
  case round =>
    obtain ⟨k, H, L, R, Q, hk, rfl, rfl, rfl, rfl, iv, kp⟩ := hrel
    by_cases hlt : k < 128
    · have hk1 : (k : Int) < 128 := by omega
      have iv' : Bt.Inv A b ((127 - k) + 1) H L R Q := by rw [show 127 - k + 1 = 128 - k from by omega]; exact iv
      obtain ⟨bit, hbit, hbl, s1, s2⟩ := Bt.step iv'
      have HH := Bt.hbound iv
      have lb := iv.lb
      have rb := iv.rb
      have e1 : (H : Int) / 9223372036854775808 = bit := by omega
      obtain ⟨e2, e3⟩ := rounds_words H L HH lb
      have S1 := Lib.hid s1
      have S2 := Lib.hid s2
      have Hj := Lib.hid (show 128 - (k + 1) = 127 - k from by omega)
      have c0 := kp.c0
      have c1 := kp.c1
      obtain ⟨H', hH'⟩ : ∃ H', (H * 2 + L / 9223372036854775808) % 18446744073709551616 = H' := ⟨_, rfl⟩
      obtain ⟨L', hL'⟩ : ∃ L', L * 2 % 18446744073709551616 = L' := ⟨_, rfl⟩
      rw [hH'] at e2
      rw [hL'] at e3
      have HH' := Lib.hid (And.intro hH' hL')
      have bR : 0 ≤ (R : Int) ∧ (R : Int) * 2 + bit ≤ 18446744073709551615 := by omega
      clear iv iv' s1 s2 hbit hH' hL'
      go_wp2_with fail
      refine (radd_any _ _ _).mono ?_
      rintro e w2 ⟨rfl, h2⟩
      have kp2 := kp.step h2
      clear kp c0 c1 h2
      have c0 := kp2.c0
      have c1 := kp2.c1
      have f0 := kp2.f0
      have f1 := kp2.f1
      by_cases hge : R * 2 + bit < b
      · have t1 : decide ((b : Int) ≤ (R : Int) * 2 + bit) = false := by simp; omega
        go_wp2
        go_roundw
        case rel => exact ⟨k + 1, H', L', R * 2 + bit, 2 * Q, by omega, by go_num, rfl, rfl, by go_num, by rw [Hj.out, ← HH'.out.1, ← HH'.out.2]; exact S1.out hge, by rw [show ((2 * Q : Nat) : Int) = (Q : Int) + Q from by omega]; exact kp2.put _⟩
        case measure => simp [intOf]; omega
      · have t1 : (b : Int) ≤ (R : Int) * 2 + bit := by omega
        go_wp2_with fail
        have kp3 := kp2.put ((Q : Int) + Q)
        clear kp2 c0 c1 f0 f1
        refine any_gen (fun z => Keep w (w.heap.size + 1 + 1) (w.heap.size + 1) ((Q : Int) + Q) z) kp3 ?_
        clear kp3
        rintro w3 kp3
        have kp4 := kp3.drew
        clear kp3
        have c0 := kp4.c0
        have c1 := kp4.c1
        have f0 := kp4.f0
        have f1 := kp4.f1
        go_region_with (first | (go_at_call 46; refine (rof_any 1 _ (by omega)).mono ?_; rintro e z ⟨rfl, hb⟩; have ky := Keep.step ‹_› hb; have c0 := ky.c0; have c1 := ky.c1; have f0 := ky.f0; have f1 := ky.f1) | (go_at_call 45; refine (radd_any _ _ _).mono ?_; rintro e z ⟨rfl, hb⟩; have ky := Keep.step ‹_› hb; have c0 := ky.c0; have c1 := ky.c1; have f0 := ky.f0; have f1 := ky.f1))
        all_goals
          go_wp2
          go_roundw
          case rel => exact ⟨k + 1, H', L', R * 2 + bit - b, 2 * Q + 1, by omega, by go_num, rfl, rfl, ret_val (by omega), by rw [Hj.out, ← HH'.out.1, ← HH'.out.2]; exact S2.out (by omega), by rw [show ((2 * Q + 1 : Nat) : Int) = (Q : Int) + Q + 1 from by omega]; exact ky.put _⟩
          case measure => simp [intOf]; omega
    · obtain rfl : k = 128 := by omega
      obtain ⟨d1, d2⟩ := Bt.done iv
      have Hq := Lib.hid (Bt.quot_pos a b A Q R HA.out d1 d2)
      have c0 := kp.c0
      have c1 := kp.c1
      obtain ⟨⟨y0, hy0⟩, g0, ⟨y1, hy1⟩, g1⟩ := OwnN.two kp.own
      have bR : 0 ≤ (R : Int) ∧ (R : Int) ≤ 9223372036854775807 := by omega
      have KP := Lib.hid kp
      clear iv d1 kp
      go_wp2
      refine bodyPost_ret (by simp [results, Try.results43, go_sem, hy0, hy1] <;> rfl) rfl ⟨?_, ?_⟩
      · rw [Hq.out.1, Hq.out.2]
      · exact (KP.out.bel.setCell KP.out.tb _).setCell KP.out.tb _

theorem rdiv_neg (a : Int) (b A : Nat) (w : World) (ia : In a) (hb : 1 ≤ b ∧ b ≤ 9223372036854775807) (h0 : a < 0) (hA : -a = (A : Int)) :
    Calls Try.prog 43 #[W a, .int .i64 b] w fun e w' => e = .returned (.tuple #[W (a / b), .int .i64 (a % b), .int .i64 0]) ∧ Below w.heap.size w w' := by
  have b0 : decide ((b : Int) ≤ 0) = false := by simp; omega
  have b0' : decide (b = 0) = false := by simp; omega
  have b1 : IntKind.u64.wrap (b : Int) = b := by rw [IntKind.wrap_u64]; omega
  have b2 : (1 : Int) ≤ b ∧ (b : Int) ≤ 9223372036854775807 := by omega
  have z1 := hi_0
  have z2 := lo_0
  have HA := Lib.hid hA
  obtain ⟨H0, hH0⟩ : ∃ H0 : Nat, IntKind.u64.wrap (hi (-a)) = H0 := ⟨(IntKind.u64.wrap (hi (-a))).toNat, by rw [IntKind.wrap_u64]; omega⟩
  obtain ⟨L0, hL0⟩ : ∃ L0 : Nat, lo (-a) = L0 := ⟨(lo (-a)).toNat, by have := lo_bd (-a); omega⟩
  have HS := Lib.hid (show H0 * 18446744073709551616 + L0 = A ∧ L0 < 18446744073709551616 ∧ A < 340282366920938463463374607431768211456 by
    rw [IntKind.wrap_u64] at hH0; unfold In at ia; unfold hi lo at *; omega)
  have n0 : decide (hi a < 0) = true := by unfold In at ia; unfold hi; simp; omega
  clear hA
  go_enter Try.func43, Try.ntmps43
  go_wp2_with fail
  refine (rneg_any _ _).mono ?_
  rintro e w1 ⟨rfl, h1⟩
  have x0 : w1.cell? ⟨w.heap.size, 0, none⟩ = some (.int .i64 (hi a)) := (h1.cell (p := ⟨w.heap.size, 0, none⟩) (by simp; omega)).trans (by simp [go_sem])
  have x1 : w1.cell? ⟨w.heap.size, 1, none⟩ = some (.int .u64 (lo a)) := (h1.cell (p := ⟨w.heap.size, 1, none⟩) (by simp; omega)).trans (by simp [go_sem])
  have x2 : w1.frozen? ⟨w.heap.size, 0, none⟩ = false := (h1.frozen (p := ⟨w.heap.size, 0, none⟩) (by simp; omega)).trans (by simp [go_sem])
  have x3 : w1.frozen? ⟨w.heap.size, 1, none⟩ = false := (h1.frozen (p := ⟨w.heap.size, 1, none⟩) (by simp; omega)).trans (by simp [go_sem])
  have x4 : w1.cell? ⟨w.heap.size + 1, 0, none⟩ = some (.int .i64 0) := (h1.cell (p := ⟨w.heap.size + 1, 0, none⟩) (by simp)).trans (by simp [go_sem])
  have x5 : w1.cell? ⟨w.heap.size + 1, 1, none⟩ = some (.int .u64 0) := (h1.cell (p := ⟨w.heap.size + 1, 1, none⟩) (by simp)).trans (by simp [go_sem])
  have x6 : w1.frozen? ⟨w.heap.size + 1, 0, none⟩ = false := (h1.frozen (p := ⟨w.heap.size + 1, 0, none⟩) (by simp)).trans (by simp [go_sem])
  have x7 : w1.frozen? ⟨w.heap.size + 1, 1, none⟩ = false := (h1.frozen (p := ⟨w.heap.size + 1, 1, none⟩) (by simp)).trans (by simp [go_sem])
  have hsz : w.heap.size + 1 < w1.heap.size := by have := h1.size; simp at this; omega
  have hB : Below w.heap.size w w1 := (((Below.refl _ _).alloc (by simp) _).alloc (by simp) _).trans (h1.mono (by simp; omega))
  clear h1
  go_wp2
  go_loopw [8, 9, 11, 12] (fun h l r i wr => ∃ (k H L R Q : Nat), k ≤ 128 ∧ i = .int .i64 k ∧ h = .int .u64 H ∧ l = .int .u64 L ∧ r = .int .u64 R ∧ Bt.Inv A b (128 - k) H L R Q ∧ Keep w (w1.heap.size) (w.heap.size + 1) Q wr) (fun _ _ _ i _ => 128 - (intOf i).toNat)
  case atStart => exact ⟨0, H0, L0, 0, 0, by omega, rfl, rfl, rfl, rfl, Bt.start A b H0 L0 (by omega) HS.out.2.2 HS.out.1 HS.out.2.1, Keep.mk (by first | (simp [go_sem, z1, z2]; done) | (simp [go_sem, z1, z2]; omega) | omega) (by first | (simp [go_sem, z1, z2]; done) | (simp [go_sem, z1, z2]; omega) | omega) (by first | (simp [go_sem, z1, z2]; done) | (simp [go_sem, z1, z2]; omega) | omega) (by first | (simp [go_sem, z1, z2]; done) | (simp [go_sem, z1, z2]; omega) | omega) ((((OwnN.of_two ⟨_, x4⟩ x6 ⟨_, x5⟩ x7).setCell _ _).setCell _ _).below ((Below.refl _ _).alloc (Nat.le_refl _) _) (by simp [World.setCell]; omega)) (by first | (simp [go_sem, z1, z2]; done) | (simp [go_sem, z1, z2]; omega) | omega) (by first | (simp [go_sem, z1, z2]; done) | (simp [go_sem, z1, z2]; omega) | omega) (by first | (simp [go_sem, z1, z2]; done) | (simp [go_sem, z1, z2]; omega) | omega) (by first | (simp [go_sem, z1, z2]; done) | (simp [go_sem, z1, z2]; omega) | omega) (by first | (simp [go_sem, z1, z2]; done) | (simp [go_sem, z1, z2]; omega) | omega) (((hB.setCell (by simp) _).setCell (by simp) _).alloc (by first | (simp [World.setCell]; done) | (simp [World.setCell]; omega)) _)⟩
  case round =>
    obtain ⟨k, H, L, R, Q, hk, rfl, rfl, rfl, rfl, iv, kp⟩ := hrel
    by_cases hlt : k < 128
    · have hk1 : (k : Int) < 128 := by omega
      have iv' : Bt.Inv A b ((127 - k) + 1) H L R Q := by rw [show 127 - k + 1 = 128 - k from by omega]; exact iv
      obtain ⟨bit, hbit, hbl, s1, s2⟩ := Bt.step iv'
      have HH := Bt.hbound iv
      have lb := iv.lb
      have rb := iv.rb
      have e1 : (H : Int) / 9223372036854775808 = bit := by omega
      obtain ⟨e2, e3⟩ := rounds_words H L HH lb
      have S1 := Lib.hid s1
      have S2 := Lib.hid s2
      have Hj := Lib.hid (show 128 - (k + 1) = 127 - k from by omega)
      have c0 := kp.c0
      have c1 := kp.c1
      obtain ⟨H', hH'⟩ : ∃ H', (H * 2 + L / 9223372036854775808) % 18446744073709551616 = H' := ⟨_, rfl⟩
      obtain ⟨L', hL'⟩ : ∃ L', L * 2 % 18446744073709551616 = L' := ⟨_, rfl⟩
      rw [hH'] at e2
      rw [hL'] at e3
      have HH' := Lib.hid (And.intro hH' hL')
      have bR : 0 ≤ (R : Int) ∧ (R : Int) * 2 + bit ≤ 18446744073709551615 := by omega
      clear iv iv' s1 s2 hbit hH' hL'
      go_wp2_with fail
      refine (radd_any _ _ _).mono ?_
      rintro e w2 ⟨rfl, h2⟩
      have kp2 := kp.step h2
      clear kp c0 c1 h2
      have c0 := kp2.c0
      have c1 := kp2.c1
      have f0 := kp2.f0
      have f1 := kp2.f1
      by_cases hge : R * 2 + bit < b
      · have t1 : decide ((b : Int) ≤ (R : Int) * 2 + bit) = false := by simp; omega
        go_wp2
        go_roundw
        case rel => exact ⟨k + 1, H', L', R * 2 + bit, 2 * Q, by omega, by go_num, rfl, rfl, by go_num, by rw [Hj.out, ← HH'.out.1, ← HH'.out.2]; exact S1.out hge, by rw [show ((2 * Q : Nat) : Int) = (Q : Int) + Q from by omega]; exact kp2.put _⟩
        case measure => simp [intOf]; omega
      · have t1 : (b : Int) ≤ (R : Int) * 2 + bit := by omega
        go_wp2_with fail
        have kp3 := kp2.put ((Q : Int) + Q)
        clear kp2 c0 c1 f0 f1
        refine any_gen (fun z => Keep w (w1.heap.size) (w.heap.size + 1) ((Q : Int) + Q) z) kp3 ?_
        clear kp3
        rintro w3 kp3
        have kp4 := kp3.drew
        clear kp3
        have c0 := kp4.c0
        have c1 := kp4.c1
        have f0 := kp4.f0
        have f1 := kp4.f1
        go_region_with (first | (go_at_call 46; refine (rof_any 1 _ (by omega)).mono ?_; rintro e z ⟨rfl, hb⟩; have ky := Keep.step ‹_› hb; have c0 := ky.c0; have c1 := ky.c1; have f0 := ky.f0; have f1 := ky.f1) | (go_at_call 45; refine (radd_any _ _ _).mono ?_; rintro e z ⟨rfl, hb⟩; have ky := Keep.step ‹_› hb; have c0 := ky.c0; have c1 := ky.c1; have f0 := ky.f0; have f1 := ky.f1))
        all_goals
          go_wp2
          go_roundw
          case rel => exact ⟨k + 1, H', L', R * 2 + bit - b, 2 * Q + 1, by omega, by go_num, rfl, rfl, ret_val (by omega), by rw [Hj.out, ← HH'.out.1, ← HH'.out.2]; exact S2.out (by omega), by rw [show ((2 * Q + 1 : Nat) : Int) = (Q : Int) + Q + 1 from by omega]; exact ky.put _⟩
          case measure => simp [intOf]; omega
    · obtain rfl : k = 128 := by omega
      obtain ⟨d1, d2⟩ := Bt.done iv
      have c0 := kp.c0
      have c1 := kp.c1
      obtain ⟨⟨y0, hy0⟩, g0, ⟨y1, hy1⟩, g1⟩ := OwnN.two kp.own
      have bR : 0 ≤ (R : Int) ∧ (R : Int) ≤ 9223372036854775807 := by omega
      have bd : 0 ≤ (b : Int) - R ∧ (b : Int) - R ≤ 9223372036854775807 := by omega
      by_cases r0 : R = 0
      · have Hq := Lib.hid (Bt.quot_neg0 a b A Q R HA.out d1 (by omega) r0)
        subst r0
        clear iv d1
        go_wp2_with fail
        refine (rneg_any _ _).mono ?_
        rintro e w3 ⟨rfl, h3⟩
        have kp3 := kp.step h3
        clear kp c0 c1 hy0 hy1 g0 g1 h3
        obtain ⟨⟨y0, hy0⟩, g0, ⟨y1, hy1⟩, g1⟩ := OwnN.two kp3.own
        go_wp2
        refine bodyPost_ret (by simp [results, Try.results43, go_sem, hy0, hy1] <;> rfl) rfl ⟨?_, ?_⟩
        · rw [Hq.out.1, Hq.out.2]
        · exact (kp3.bel.setCell kp3.tb _).setCell kp3.tb _
      · have Hq := Lib.hid (Bt.quot_neg a b A Q R HA.out d1 d2 (by omega))
        have t0 : decide (0 < (R : Int)) = true := by simp; omega
        have t1 : 0 < (R : Int) := by omega
        have t2 : decide (0 < R) = true := by simp; omega
        clear iv d1
        go_wp2_with fail
        refine (rneg_any _ _).mono ?_
        rintro e w3 ⟨rfl, h3⟩
        have kp3 := kp.step h3
        go_wp2_with fail
        refine (rof_any 1 _ (by omega)).mono ?_
        rintro e w4 ⟨rfl, h4⟩
        have kp4 := kp3.step h4
        go_wp2_with fail
        refine (rsub_any _ 1 _).mono ?_
        rintro e w5 ⟨rfl, h5⟩
        have kp5 := kp4.step h5
        clear kp kp3 kp4 c0 c1 hy0 hy1 g0 g1 h3 h4 h5
        obtain ⟨⟨y0, hy0⟩, g0, ⟨y1, hy1⟩, g1⟩ := OwnN.two kp5.own
        go_wp2
        refine bodyPost_ret (by simp [results, Try.results43, go_sem, hy0, hy1] <;> rfl) rfl ⟨?_, ?_⟩
        · rw [Hq.out.1, Hq.out.2]
        · exact (kp5.bel.setCell kp5.tb _).setCell kp5.tb _

theorem rdiv_any (a b : Int) (w : World) (ia : In a) (hb : 1 ≤ b ∧ b ≤ 9223372036854775807) :
    Calls Try.prog 43 #[W a, .int .i64 b] w fun e w' => e = .returned (.tuple #[W (a / b), .int .i64 (a % b), .int .i64 0]) ∧ Below w.heap.size w w' := by
  obtain ⟨b, rfl⟩ := Int.eq_ofNat_of_zero_le (show 0 ≤ b by omega)
  by_cases h : 0 ≤ a
  · obtain ⟨A, hA⟩ := Int.eq_ofNat_of_zero_le h
    exact rdiv_pos a b A w ia (by omega) h hA
  · obtain ⟨A, hA⟩ := Int.eq_ofNat_of_zero_le (show 0 ≤ -a by omega)
    exact rdiv_neg a b A w ia (by omega) (by omega) hA
end Go.Proofs.Ytmdhlkdeadfgdaa
