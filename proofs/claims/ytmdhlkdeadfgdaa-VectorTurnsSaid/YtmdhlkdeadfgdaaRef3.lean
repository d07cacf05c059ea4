/- What the document's own divisions of layer 3 answer: narrow, Scale, Near, Floor, Round. -/
import Derived.Test.YtmdhlkdeadfgdaaRefB
import Derived.Test.YtmdhlkdeadfgdaaRefC
namespace Go.Proofs.Ytmdhlkdeadfgdaa
open Go.RowKit
set_option linter.unusedVariables false
set_option linter.unusedSimpArgs false
set_option maxHeartbeats 2000000

/-- One box of a wide number, at block g, made behind w. -/
structure Box (w : World) (g : Nat) (Q : Int) (wr : World) : Prop where
  c0 : wr.cell? ⟨g, 0, none⟩ = some (.int .i64 (hi Q))
  c1 : wr.cell? ⟨g, 1, none⟩ = some (.int .u64 (lo Q))
  f0 : wr.frozen? ⟨g, 0, none⟩ = false
  f1 : wr.frozen? ⟨g, 1, none⟩ = false
  gl : g < wr.heap.size
  gb : w.heap.size ≤ g
  bel : Below w.heap.size w wr
theorem Box.step {w : World} {g : Nat} {Q : Int} {x y : World} (k : Box w g Q x) (hb : Below x.heap.size x y) : Box w g Q y :=
  ⟨(hb.cell (p := ⟨g, 0, none⟩) k.gl).trans k.c0, (hb.cell (p := ⟨g, 1, none⟩) k.gl).trans k.c1, (hb.frozen (p := ⟨g, 0, none⟩) k.gl).trans k.f0, (hb.frozen (p := ⟨g, 1, none⟩) k.gl).trans k.f1,
    Nat.lt_of_lt_of_le k.gl hb.size, k.gb, k.bel.trans (hb.mono (by have := k.bel.size; omega))⟩
theorem Box.put {w : World} {g : Nat} {Q : Int} {x : World} (k : Box w g Q x) (Q' : Int) : Box w g Q' ((x.setCell ⟨g, 0, none⟩ (.int .i64 (hi Q'))).setCell ⟨g, 1, none⟩ (.int .u64 (lo Q'))) :=
  ⟨by rw [World.cell?_setCell_other _ _ _ _ (by simp)]; exact World.cell?_setCell_same _ _ _ k.c0, World.cell?_setCell_same _ _ _ ((World.cell?_setCell_other _ _ _ _ (by simp)).trans k.c1),
    by rw [World.frozen?_setCell, World.frozen?_setCell]; exact k.f0, by rw [World.frozen?_setCell, World.frozen?_setCell]; exact k.f1,
    by simpa [World.setCell] using k.gl, k.gb, (k.bel.setCell k.gb _).setCell k.gb _⟩
theorem Box.drew {w : World} {g : Nat} {Q : Int} {x : World} (k : Box w g Q x) : Box w g Q x.drew := k.step (Below.refl _ _).drew

/-- What a number that may be too wide is told as: itself, or ErrFull. -/
def full (a : Int) : Value := if -9223372036854775808 ≤ a ∧ a ≤ 9223372036854775807 then .tuple #[.int .i64 a, .int .i64 0] else .tuple #[.int .i64 0, .int .i64 2]
theorem full_yes {a : Int} (h : -9223372036854775808 ≤ a ∧ a ≤ 9223372036854775807) : full a = .tuple #[.int .i64 a, .int .i64 0] := by unfold full; rw [if_pos h]
theorem full_no {a : Int} (h : ¬ (-9223372036854775808 ≤ a ∧ a ≤ 9223372036854775807)) : full a = .tuple #[.int .i64 0, .int .i64 2] := by unfold full; rw [if_neg h]
theorem narrowV_yes {a : Int} (h : -9223372036854775808 ≤ a ∧ a ≤ 9223372036854775807) : narrowV a = .tuple #[.int .i64 a, .bool true] := by unfold narrowV; rw [if_pos h]
theorem narrowV_no {a : Int} (h : ¬ (-9223372036854775808 ≤ a ∧ a ≤ 9223372036854775807)) : narrowV a = .tuple #[.int .i64 0, .bool false] := by unfold narrowV; rw [if_neg h]
/-- full's two parts. -/
theorem full_parts (a : Int) : ∃ n e, full a = .tuple #[.int .i64 n, .int .i64 e] := by
  unfold full; split
  · exact ⟨_, _, rfl⟩
  · exact ⟨_, _, rfl⟩

theorem rnarrow3_any (a : Int) (w : World) (ia : In a) :
    Calls Try.prog 47 #[W a] w fun e w' => e = .returned (full a) ∧ Below w.heap.size w w' := by
  have IA := Lib.hid ia
  clear ia
  by_cases h : -9223372036854775808 ≤ a ∧ a ≤ 9223372036854775807
  · have e1 := Lib.hid (narrowV_yes h)
    rw [full_yes h]
    clear h
    go_enter Try.func47, Try.ntmps47
    go_wp2_with fail
    refine (rnarrow_any a _ IA.out).mono ?_
    rintro e w1 ⟨rfl, h1⟩
    rw [e1.out]
    go_wp2
    refine bodyPost_ret (by simp [results, Try.results47, go_sem] <;> rfl) rfl ?_
    exact ⟨rfl, ((Below.refl _ _).alloc (by simp) _).trans (h1.mono (by simp))⟩
  · have e1 := Lib.hid (narrowV_no h)
    rw [full_no h]
    clear h
    go_enter Try.func47, Try.ntmps47
    go_wp2_with fail
    refine (rnarrow_any a _ IA.out).mono ?_
    rintro e w1 ⟨rfl, h1⟩
    rw [e1.out]
    go_wp2
    refine bodyPost_ret (by simp [results, Try.results47, go_sem] <;> rfl) rfl ?_
    exact ⟨rfl, ((Below.refl _ _).alloc (by simp) _).trans (h1.mono (by simp))⟩

/-- What Scale tells; Floor is this of a times 1. -/
def scaleV (a b c : Int) : Value := if c ≤ 0 then .tuple #[.int .i64 0, .int .i64 1] else full (a * b / c)
/-- The nearest number to x / c. -/
def nearQ (x c : Int) : Int := if c - x % c ≤ x % c then x / c + 1 else x / c
/-- What Near tells. -/
def nearV (a b c : Int) : Value := if c ≤ 0 then .tuple #[.int .i64 0, .int .i64 1] else full (nearQ (a * b) c)

theorem scaleV_parts (a b c : Int) : ∃ n e, scaleV a b c = .tuple #[.int .i64 n, .int .i64 e] := by
  unfold scaleV; split
  · exact ⟨_, _, rfl⟩
  · exact full_parts _
theorem nearV_parts (a b c : Int) : ∃ n e, nearV a b c = .tuple #[.int .i64 n, .int .i64 e] := by
  unfold nearV; split
  · exact ⟨_, _, rfl⟩
  · exact full_parts _

/-- A product of two words is well within the wide numbers' range. -/
theorem prod_bd (a b : Int) (ha : -9223372036854775808 ≤ a ∧ a ≤ 9223372036854775807) (hb : -9223372036854775808 ≤ b ∧ b ≤ 9223372036854775807) :
    -85070591730234615865843651857942052864 ≤ a * b ∧ a * b ≤ 85070591730234615865843651857942052864 := by
  have h1 : a.natAbs ≤ 9223372036854775808 := by omega
  have h2 : b.natAbs ≤ 9223372036854775808 := by omega
  have h3 := Nat.mul_le_mul h1 h2
  rw [← Int.natAbs_mul] at h3
  obtain ⟨p, hp⟩ : ∃ p, a * b = p := ⟨_, rfl⟩
  rw [hp] at h3 ⊢
  omega
theorem quot_bd (x c : Int) (hc : 1 ≤ c) (hx : -85070591730234615865843651857942052864 ≤ x ∧ x ≤ 85070591730234615865843651857942052864) :
    -85070591730234615865843651857942052864 ≤ x / c ∧ x / c ≤ 85070591730234615865843651857942052864 := by
  have h1 : (x / c).natAbs ≤ x.natAbs := Int.natAbs_ediv_le_natAbs _ _
  omega
theorem prod_in (a b : Int) (ha : -9223372036854775808 ≤ a ∧ a ≤ 9223372036854775807) (hb : -9223372036854775808 ≤ b ∧ b ≤ 9223372036854775807) : In (a * b) := by
  have := prod_bd a b ha hb
  unfold In; omega
theorem quot_in (a b c : Int) (hc : 1 ≤ c) (ha : -9223372036854775808 ≤ a ∧ a ≤ 9223372036854775807) (hb : -9223372036854775808 ≤ b ∧ b ≤ 9223372036854775807) : In (a * b / c) ∧ In (a * b / c + 1) := by
  have := quot_bd _ c hc (prod_bd a b ha hb)
  unfold In; omega

theorem near_lt (x c : Int) (hc : 1 ≤ c) : 0 ≤ x % c ∧ x % c < c := ⟨Int.emod_nonneg _ (by omega), Int.emod_lt_of_pos _ (by omega)⟩

theorem rnear_any (a b c : Int) (w : World) (ha : -9223372036854775808 ≤ a ∧ a ≤ 9223372036854775807) (hb : -9223372036854775808 ≤ b ∧ b ≤ 9223372036854775807) (hc : -9223372036854775808 ≤ c ∧ c ≤ 9223372036854775807) :
    Calls Try.prog 39 #[.int .i64 a, .int .i64 b, .int .i64 c] w fun e w' => e = .returned (nearV a b c) ∧ Below w.heap.size w w' := by
  have IA := Lib.hid (prod_in a b ha hb)
  have HA := Lib.hid ha
  have HB := Lib.hid hb
  clear ha hb
  by_cases h0 : c ≤ 0
  · have e0 : nearV a b c = .tuple #[.int .i64 0, .int .i64 1] := by unfold nearV; rw [if_pos h0]
    rw [e0]
    clear e0
    go_enter Try.func39, Try.ntmps39
    go_wp2_with fail
    refine (rmul_any a b _ HA.out HB.out).mono ?_
    rintro e w1 ⟨rfl, h1⟩
    go_wp2_with fail
    refine (rdiv_err _ c _ h0).mono ?_
    rintro e w2 ⟨rfl, h2⟩
    go_wp2
    refine bodyPost_ret (by simp [results, Try.results39, go_sem] <;> rfl) rfl ?_
    exact ⟨rfl, (h1.trans (h2.mono h1.size)).alloc (Nat.le_trans h1.size h2.size) _⟩
  · have hq := quot_in a b c (by omega) HA.out HB.out
    have hl := near_lt (a * b) c (by omega)
    by_cases hm : c - a * b % c ≤ a * b % c
    · have e0 : nearV a b c = full (a * b / c + 1) := by unfold nearV nearQ; rw [if_neg h0, if_pos hm]
      rw [e0]
      clear e0
      obtain ⟨n, x, hf⟩ := full_parts (a * b / c + 1)
      have HF := Lib.hid hf
      clear hf
      go_enter Try.func39, Try.ntmps39
      go_wp2_with fail
      refine (rmul_any a b _ HA.out HB.out).mono ?_
      rintro e w1 ⟨rfl, h1⟩
      go_wp2_with fail
      refine (rdiv_any _ c _ IA.out (by omega)).mono ?_
      rintro e w2 ⟨rfl, h2⟩
      have h3 : Below w.heap.size w w2 := h1.trans (h2.mono h1.size)
      have hs := h3.size
      clear h1 h2 HA HB IA
      obtain ⟨q, hqq⟩ : ∃ q, a * b / c = q := ⟨_, rfl⟩
      obtain ⟨r, hr⟩ : ∃ r, a * b % c = r := ⟨_, rfl⟩
      have hF := HF.out
      rw [hqq] at hq hF
      rw [hr] at hl hm
      rw [hqq, hr]
      have IQ := Lib.hid hq.2
      have HF2 := Lib.hid hF
      have e5 : IntKind.i64.wrap (c - r) = c - r := IntWalk.i64_in _ (by omega)
      clear hqq hr hq hF
      go_upto_region 5 with fail
      refine any_gen (fun z => Box w w2.heap.size q z) ⟨by simp [go_sem], by simp [go_sem], by simp [go_sem], by simp [go_sem], by simp, hs, h3.alloc hs _⟩ ?_
      rintro w5 kp
      clear h3
      go_cut [6] (fun s6 wx => Box w w2.heap.size (q + 1) wx)
      case first =>
        have ky := kp.drew
        clear kp
        have c0 := ky.c0; have c1 := ky.c1; have f0 := ky.f0; have f1 := ky.f1
        go_region_with (first | (go_at_call 46; refine (rof_any 1 _ (by omega)).mono ?_; rintro e z ⟨rfl, hb⟩; have ky := Box.step ‹_› hb; have c0 := ky.c0; have c1 := ky.c1; have f0 := ky.f0; have f1 := ky.f1) | (go_at_call 45; refine (radd_any _ _ _).mono ?_; rintro e z ⟨rfl, hb⟩; have ky := Box.step ‹_› hb; have c0 := ky.c0; have c1 := ky.c1; have f0 := ky.f0; have f1 := ky.f1))
        all_goals
          go_wp2_with fail
          go_meet
          exact ky.put _
      case rest =>
        clear kp
        have c0 := hcut.c0; have c1 := hcut.c1
        go_wp2_with fail
        refine (rnarrow3_any (q + 1) _ IQ.out).mono ?_
        rintro e w6 ⟨rfl, h6⟩
        have k6 := hcut.step h6
        rw [HF2.out]
        go_wp2
        refine bodyPost_ret (by simp [results, Try.results39, go_sem] <;> rfl) rfl ?_
        exact ⟨by rw [HF.out], k6.bel⟩
    · have e0 : nearV a b c = full (a * b / c) := by unfold nearV nearQ; rw [if_neg h0, if_neg hm]
      rw [e0]
      clear e0
      obtain ⟨n, x, hf⟩ := full_parts (a * b / c)
      have HF := Lib.hid hf
      clear hf
      go_enter Try.func39, Try.ntmps39
      go_wp2_with fail
      refine (rmul_any a b _ HA.out HB.out).mono ?_
      rintro e w1 ⟨rfl, h1⟩
      go_wp2_with fail
      refine (rdiv_any _ c _ IA.out (by omega)).mono ?_
      rintro e w2 ⟨rfl, h2⟩
      have h3 : Below w.heap.size w w2 := h1.trans (h2.mono h1.size)
      have hs := h3.size
      clear h1 h2 HA HB IA
      obtain ⟨q, hqq⟩ : ∃ q, a * b / c = q := ⟨_, rfl⟩
      obtain ⟨r, hr⟩ : ∃ r, a * b % c = r := ⟨_, rfl⟩
      have hF := HF.out
      rw [hqq] at hq hF
      rw [hr] at hl hm
      rw [hqq, hr]
      have IQ := Lib.hid hq.1
      have HF2 := Lib.hid hF
      have e5 : IntKind.i64.wrap (c - r) = c - r := IntWalk.i64_in _ (by omega)
      clear hqq hr hq hF
      go_wp2_with fail
      refine (rnarrow3_any q _ IQ.out).mono ?_
      rintro e w4 ⟨rfl, h4⟩
      rw [HF2.out]
      go_wp2
      refine bodyPost_ret (by simp [results, Try.results39, go_sem] <;> rfl) rfl ?_
      exact ⟨by rw [HF.out], (h3.alloc hs _).trans (h4.mono (by simp; omega))⟩

end Go.Proofs.Ytmdhlkdeadfgdaa
