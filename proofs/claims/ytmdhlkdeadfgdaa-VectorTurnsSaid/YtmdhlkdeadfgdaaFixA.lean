/- What the program's own divisions of layer 3 answer: narrow, Scale, Near, Floor, Round. -/
import Derived.Test.YtmdhlkdeadfgdaaRef3
import Derived.Test.YtmdhlkdeadfgdaaWideB
import Derived.Test.YtmdhlkdeadfgdaaWideC
namespace Go.Proofs.Ytmdhlkdeadfgdaa
open Go.RowKit
set_option linter.unusedVariables false
set_option linter.unusedSimpArgs false
set_option maxHeartbeats 2000000

theorem narrow3_any (a : Int) (w : World) (ia : In a) :
    Calls Try.prog 54 #[W a] w fun e w' => e = .returned (full a) ∧ Below w.heap.size w w' := by
  have IA := Lib.hid ia
  clear ia
  by_cases h : -9223372036854775808 ≤ a ∧ a ≤ 9223372036854775807
  · have e1 := Lib.hid (narrowV_yes h)
    rw [full_yes h]
    clear h
    go_enter Try.func54, Try.ntmps54
    go_wp2_with fail
    refine (narrow_any a _ IA.out).mono ?_
    rintro e w1 ⟨rfl, h1⟩
    rw [e1.out]
    go_wp2
    refine bodyPost_ret (by simp [results, Try.results54, go_sem] <;> rfl) rfl ?_
    exact ⟨rfl, ((Below.refl _ _).alloc (by simp) _).trans (h1.mono (by simp))⟩
  · have e1 := Lib.hid (narrowV_no h)
    rw [full_no h]
    clear h
    go_enter Try.func54, Try.ntmps54
    go_wp2_with fail
    refine (narrow_any a _ IA.out).mono ?_
    rintro e w1 ⟨rfl, h1⟩
    rw [e1.out]
    go_wp2
    refine bodyPost_ret (by simp [results, Try.results54, go_sem] <;> rfl) rfl ?_
    exact ⟨rfl, ((Below.refl _ _).alloc (by simp) _).trans (h1.mono (by simp))⟩

theorem near_any (a b c : Int) (w : World) (ha : -9223372036854775808 ≤ a ∧ a ≤ 9223372036854775807) (hb : -9223372036854775808 ≤ b ∧ b ≤ 9223372036854775807) (hc : -9223372036854775808 ≤ c ∧ c ≤ 9223372036854775807) :
    Calls Try.prog 42 #[.int .i64 a, .int .i64 b, .int .i64 c] w fun e w' => e = .returned (nearV a b c) ∧ Below w.heap.size w w' := by
  have IA := Lib.hid (prod_in a b ha hb)
  have HA := Lib.hid ha
  have HB := Lib.hid hb
  clear ha hb
  by_cases h0 : c ≤ 0
  · have e0 : nearV a b c = .tuple #[.int .i64 0, .int .i64 1] := by unfold nearV; rw [if_pos h0]
    rw [e0]
    clear e0
    go_enter Try.func42, Try.ntmps42
    go_wp2_with fail
    refine (mul_any a b _ HA.out HB.out).mono ?_
    rintro e w1 ⟨rfl, h1⟩
    go_wp2_with fail
    refine (div_err _ c _ h0).mono ?_
    rintro e w2 ⟨rfl, h2⟩
    go_wp2
    refine bodyPost_ret (by simp [results, Try.results42, go_sem] <;> rfl) rfl ?_
    exact ⟨rfl, (h1.trans (h2.mono h1.size)).alloc (Nat.le_trans h1.size h2.size) _⟩
  · have hq := quot_in a b c (by omega) HA.out HB.out
    have hl := near_lt (a * b) c (by omega)
    by_cases hm : c - a * b % c ≤ a * b % c
    · have e0 : nearV a b c = full (a * b / c + 1) := by unfold nearV nearQ; rw [if_neg h0, if_pos hm]
      rw [e0]
      clear e0
      obtain ⟨n, x, hf⟩ := full_parts (a * b / c + 1)
      have HF := Lib.hid hf
      clear hf
      go_enter Try.func42, Try.ntmps42
      go_wp2_with fail
      refine (mul_any a b _ HA.out HB.out).mono ?_
      rintro e w1 ⟨rfl, h1⟩
      go_wp2_with fail
      refine (div_any _ c _ IA.out (by omega)).mono ?_
      rintro e w2 ⟨rfl, h2⟩
      have h3 : Below w.heap.size w w2 := h1.trans (h2.mono h1.size)
      have hs := h3.size
      clear h1 h2 HA HB IA
      obtain ⟨q, hqq⟩ : ∃ q, a * b / c = q := ⟨_, rfl⟩
      obtain ⟨r, hr⟩ : ∃ r, a * b % c = r := ⟨_, rfl⟩
      have hF := HF.out
      rw [hqq] at hq hF
      rw [hr] at hl hm
      rw [hqq, hr]
      have IQ := Lib.hid hq.2
      have HF2 := Lib.hid hF
      have e5 : IntKind.i64.wrap (c - r) = c - r := IntWalk.i64_in _ (by omega)
      clear hqq hr hq hF
      go_upto_region 5 with fail
      refine any_gen (fun z => Box w w2.heap.size q z) ⟨by simp [go_sem], by simp [go_sem], by simp [go_sem], by simp [go_sem], by simp, hs, h3.alloc hs _⟩ ?_
      rintro w5 kp
      clear h3
      go_cut [6] (fun s6 wx => Box w w2.heap.size (q + 1) wx)
      case first =>
        have ky := kp.drew
        clear kp
        have c0 := ky.c0; have c1 := ky.c1; have f0 := ky.f0; have f1 := ky.f1
        go_region_with (first | (go_at_call 53; refine (of_any 1 _ (by omega)).mono ?_; rintro e z ⟨rfl, hb⟩; have ky := Box.step ‹_› hb; have c0 := ky.c0; have c1 := ky.c1; have f0 := ky.f0; have f1 := ky.f1) | (go_at_call 52; refine (add_any _ _ _).mono ?_; rintro e z ⟨rfl, hb⟩; have ky := Box.step ‹_› hb; have c0 := ky.c0; have c1 := ky.c1; have f0 := ky.f0; have f1 := ky.f1))
        all_goals
          go_wp2_with fail
          go_meet
          exact ky.put _
      case rest =>
        clear kp
        have c0 := hcut.c0; have c1 := hcut.c1
        go_wp2_with fail
        refine (narrow3_any (q + 1) _ IQ.out).mono ?_
        rintro e w6 ⟨rfl, h6⟩
        have k6 := hcut.step h6
        rw [HF2.out]
        go_wp2
        refine bodyPost_ret (by simp [results, Try.results42, go_sem] <;> rfl) rfl ?_
        exact ⟨by rw [HF.out], k6.bel⟩
    · have e0 : nearV a b c = full (a * b / c) := by unfold nearV nearQ; rw [if_neg h0, if_neg hm]
      rw [e0]
      clear e0
      obtain ⟨n, x, hf⟩ := full_parts (a * b / c)
      have HF := Lib.hid hf
      clear hf
      go_enter Try.func42, Try.ntmps42
      go_wp2_with fail
      refine (mul_any a b _ HA.out HB.out).mono ?_
      rintro e w1 ⟨rfl, h1⟩
      go_wp2_with fail
      refine (div_any _ c _ IA.out (by omega)).mono ?_
      rintro e w2 ⟨rfl, h2⟩
      have h3 : Below w.heap.size w w2 := h1.trans (h2.mono h1.size)
      have hs := h3.size
      clear h1 h2 HA HB IA
      obtain ⟨q, hqq⟩ : ∃ q, a * b / c = q := ⟨_, rfl⟩
      obtain ⟨r, hr⟩ : ∃ r, a * b % c = r := ⟨_, rfl⟩
      have hF := HF.out
      rw [hqq] at hq hF
      rw [hr] at hl hm
      rw [hqq, hr]
      have IQ := Lib.hid hq.1
      have HF2 := Lib.hid hF
      have e5 : IntKind.i64.wrap (c - r) = c - r := IntWalk.i64_in _ (by omega)
      clear hqq hr hq hF
      go_wp2_with fail
      refine (narrow3_any q _ IQ.out).mono ?_
      rintro e w4 ⟨rfl, h4⟩
      rw [HF2.out]
      go_wp2
      refine bodyPost_ret (by simp [results, Try.results42, go_sem] <;> rfl) rfl ?_
      exact ⟨by rw [HF.out], (h3.alloc hs _).trans (h4.mono (by simp; omega))⟩

end Go.Proofs.Ytmdhlkdeadfgdaa
