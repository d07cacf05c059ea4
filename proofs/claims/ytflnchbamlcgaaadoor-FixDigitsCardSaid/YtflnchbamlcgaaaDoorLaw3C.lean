/- The walk of FixDigits. -/
import Derived.Test.YtflnchbamlcgaaaDoorLaw3B
import Derived.Test.YtflnchbamlcgaaaDoorDigNum
namespace Go.Proofs.YtflnchbamlcgaaaDoor
open Go.RowKit
set_option linter.unusedVariables false
set_option linter.unusedSimpArgs false
set_option maxHeartbeats 2000000
set_option maxRecDepth 100000

/-- Where the point is, when k bytes are read. -/
def dotV (d m k : Nat) : Nat := if k ≤ d then m else d
theorem dotV_0 (d m : Nat) : dotV d m 0 = m := by unfold dotV; rw [if_pos (by omega)]
theorem dotV_at (d m : Nat) : dotV d m d = m := by unfold dotV; rw [if_pos (by omega)]
theorem dotV_hit (d m : Nat) : dotV d m (d + 1) = d := by unfold dotV; rw [if_neg (by omega)]
theorem dotV_next (d m k : Nat) (h : k ≠ d) : dotV d m (k + 1) = dotV d m k := by unfold dotV; split <;> split <;> omega
theorem byte_at (t : ByteArray) (l : List UInt8) (h : t.data.toList = l) (k : Nat) (hk : k < t.size) (hl : k < l.length) : t[k] = l[k] := by
  subst h; rfl
/-- What is seen of a text. -/
structure SeenT (t : ByteArray) (d f : Nat) : Prop where
  d1 : 1 ≤ d
  f8 : f ≤ 8
  len : t.size = d + (if f = 0 then 0 else f + 1)
  dig : ∀ k (h : k < t.size), k ≠ d → 48 ≤ t[k].toNat ∧ t[k].toNat ≤ 57
  dot : ∀ h : d < t.size, t[d].toNat = 46
  fst : ∀ h : 0 < t.size, d = 1 ∨ t[0].toNat ≠ 48
  lst : ∀ k (h : k < t.size), k + 1 = t.size → f = 0 ∨ t[k].toNat ≠ 48
theorem Seen.text {l : List UInt8} {d f : Nat} (s : Seen l d f) (t : ByteArray) (h : t.data.toList = l) : SeenT t d f := by
  have hs : t.size = l.length := by rw [← h, size_list]
  subst h
  exact ⟨s.d1, s.f8, by rw [hs]; exact s.len, fun k hk hn => s.dig k (by rw [← hs]; exact hk) hn, fun hk => s.dot (by rw [← hs]; exact hk), fun hk => s.fst (by rw [← hs]; exact hk), fun k hk e => s.lst k (by rw [← hs]; exact hk) (by rw [← hs]; exact e)⟩
theorem tmod_nought (n : Int) (A : Nat) (h : n.natAbs = A) : (Int.tmod n 256 = 0 ↔ A % 256 = 0) := by
  rw [← h, ← Int.dvd_iff_tmod_eq_zero]; omega

theorem digits_neg (n : Int) (w : World) (hT : Tab w) (hn : -9223372036854775808 ≤ n ∧ n ≤ 9223372036854775807) (h0 : n < 0) :
    Calls Tryd.prog 8 #[.int .i64 n] w fun e w' => e = .returned (.bool true) ∧ Below w.heap.size w w' := by
  have HN := Lib.hid hn
  obtain ⟨d, f, sn, hf, hd20⟩ := seen_prW n.natAbs (by omega)
  obtain ⟨s, hs⟩ : ∃ s : ByteArray, s = ⟨(pr n).toArray⟩ := ⟨_, rfl⟩
  have HS := Lib.hid (show S (pr n) = .string s by rw [hs]; rfl)
  have hl := list_of hs
  have hl2 : s.data.toList = 45 :: prW n.natAbs := by rw [hl]; unfold pr; rw [if_pos h0]; rfl
  have sp : 0 < s.size := by rw [← size_list, hl2]; simp
  obtain ⟨c0, hc0⟩ : ∃ c : Nat, s[0].toNat = c := ⟨_, rfl⟩
  have c45 : c0 = 45 := by
    rw [← hc0, byte_at s _ hl2 0 sp (by simp)]; rfl
  have z1 : ((c0 : Int) != 45) = false := by simp; omega
  have f1 := full_empty sp
  have f2 := full_ne sp
  have q0 : decide (n < 0) = true := by simpa using h0
  obtain ⟨t, htt⟩ : ∃ t, s.extract 1 s.size = t := ⟨_, rfl⟩
  have ht : t.data.toList = prW n.natAbs := by rw [← htt, extract_list, hl2]; rfl
  clear hl2 c45
  have T := sn.text t ht
  have hm := tmod_nought n _ rfl
  have HM := Lib.hid (hm.trans hf.symm)
  have hsz := T.len
  have h8 := T.f8
  have hd := T.d1
  obtain ⟨r, hr⟩ : ∃ r, Int.tmod n 256 = r := ⟨_, rfl⟩
  have TS := Lib.hid T
  have tp : 0 < t.size := by split at hsz <;> omega
  have tb : t.size < 100 := by split at hsz <;> omega
  have SZ := Lib.hid hsz
  have HF := Lib.hid hf
  rw [hr] at HM
  clear hsz hf hm sn T ht hl hs hn hd20
  go_enter Tryd.func8, Tryd.ntmps8
  go_wp2_with fail
  refine (print_any n _ HN.out (by repeat (first | exact hT | refine Tab.step ?_ (by assumption)))).mono ?_
  rintro e w1 ⟨rfl, b1⟩
  rw [HS.out]
  go_wp2_with fail
  refine (shown_any _ (by repeat (first | exact hT | refine Tab.step ?_ (by assumption)))).mono ?_
  rintro e w2 ⟨rfl, b2⟩
  have hB := b1.trans (b2.mono b1.size)
  clear b1 b2
  go_wp2
  go_loop [5, 6] (fun s5 s6 => ∃ k q : Nat, k ≤ t.size ∧ s6 = .int .i64 k ∧ s5 = .int .i64 q ∧ q = dotV d t.size k) (fun _ s6 => t.size - (intOf s6).toNat)
  case atStart => exact ⟨0, t.size, Nat.zero_le _, rfl, rfl, (dotV_0 _ _).symm⟩
  case round =>
    obtain ⟨k, q, hk, rfl, rfl, hq⟩ := hrel
    by_cases hlt : k < t.size
    · obtain ⟨c, hc⟩ : ∃ c : Nat, t[k].toNat = c := ⟨_, rfl⟩
      by_cases hkd : k = d
      · have c46 : c = 46 := by rw [← hc]; subst hkd; exact TS.out.dot hlt
        have g1 : ((c : Int) == 46) = true := by simp; omega
        have hq2 : q = t.size := by rw [hq, hkd, dotV_at]
        have g2 : ((q : Int) == (t.size : Int)) = true := by simp; omega
        have g3 : (q == t.size) = true := by simp; omega
        have FIN := Lib.hid (show k = dotV d t.size (k + 1) by rw [hkd, dotV_hit])
        clear hq c46 hkd hq2
        go_wp2
        go_round
        case rel => exact ⟨k + 1, k, by omega, by go_num, rfl, FIN.out⟩
        case measure => simp [intOf]; omega
      · have cd := TS.out.dig k hlt hkd
        rw [hc] at cd
        have g1 : ((c : Int) == 46) = false := by simp; omega
        have g2 : decide ((c : Int) < 48) = false := by simp; omega
        have g3 : decide (57 < (c : Int)) = false := by simp; omega
        have g4 : decide (c < 48) = false := by simp; omega
        have g5 : decide (57 < c) = false := by simp; omega
        have FIN := Lib.hid (show q = dotV d t.size (k + 1) by rw [dotV_next _ _ _ hkd]; exact hq)
        clear hq cd hkd
        go_wp2
        go_round
        case rel => exact ⟨k + 1, q, by omega, by go_num, rfl, FIN.out⟩
        case measure => simp [intOf]; omega
    · have hkm : k = t.size := by omega
      obtain ⟨c, hc⟩ : ∃ c : Nat, t[0].toNat = c := ⟨_, rfl⟩
      have fst := TS.out.fst tp
      rw [hc] at fst
      have hD : q = dotV d t.size t.size := by rw [hq, hkm]
      have hsz := SZ.out
      by_cases hf0 : f = 0
      · rw [if_pos hf0] at hsz
        have hq2 : q = t.size := by rw [hD]; unfold dotV; rw [if_pos (by omega)]
        have r0 : (r == 0) = true := by simp; exact HM.out.2 hf0
        have u1 : ((q : Int) == (t.size : Int)) = true := by simp; omega
        have u1' : (q == t.size) = true := by simp; omega
        have u2 : decide (1 ≤ (q : Int)) = true := by simp; omega
        have u2' : decide (1 ≤ q) = true := by simp; omega
        by_cases hd1 : d = 1
        · have u3 : ((q : Int) == 1) = true := by simp; omega
          have u3' : (q == 1) = true := by simp; omega
          clear hq hD hsz hd1 hq2 hf0 fst hkm
          go_wp2
          go_ret
          exact ⟨rfl, hB⟩
        · have u3 : ((q : Int) == 1) = false := by simp; omega
          have u3' : (q == 1) = false := by simp; omega
          have u4 : ((c : Int) != 48) = true := by simp; omega
          clear hq hD hsz hd1 hq2 hf0 fst hkm
          go_wp2
          go_ret
          exact ⟨rfl, hB⟩
      · rw [if_neg hf0] at hsz
        have hq2 : q = d := by rw [hD]; unfold dotV; rw [if_neg (by omega)]
        have r0 : (r == 0) = false := by simp; exact fun g => hf0 (HM.out.1 g)
        have u1 : ((q : Int) == (t.size : Int)) = false := by simp; omega
        have u1' : (q == t.size) = false := by simp; omega
        have u2 : decide (1 ≤ (q : Int)) = true := by simp; omega
        have u2' : decide (1 ≤ q) = true := by simp; omega
        obtain ⟨F1, hF1⟩ : ∃ F1 : Nat, F1 = f + 1 := ⟨_, rfl⟩
        obtain ⟨M1, hM1⟩ : ∃ M1 : Nat, M1 = t.size - 1 := ⟨_, rfl⟩
        have v1 : (t.size : Int) - (q : Int) = (F1 : Int) := by omega
        have v2 : (F1 : Int) - 1 = (f : Int) := by omega
        have v3 : (t.size : Int) - 1 = (M1 : Int) := by omega
        have v4 : decide (1 ≤ (f : Int)) = true := by simp; omega
        have v4' : decide (1 ≤ f) = true := by simp; omega
        have v5 : decide ((f : Int) ≤ 8) = true := by simp; omega
        have v5' : decide (f ≤ 8) = true := by simp; omega
        have mlt : M1 < t.size := by omega
        have hls := TS.out.lst M1 mlt (by omega)
        obtain ⟨c3, hc3⟩ : ∃ c3 : Nat, t[M1].toNat = c3 := ⟨_, rfl⟩
        have l3 : c3 ≠ 48 := by
          rw [← hc3]
          exact hls.resolve_left hf0
        have u5 : ((c3 : Int) != 48) = true := by simp; omega
        have bF : F1 < 100 := by omega
        by_cases hd1 : d = 1
        · have u3 : ((q : Int) == 1) = true := by simp; omega
          have u3' : (q == 1) = true := by simp; omega
          clear hq hD hsz hd1 hq2 hf0 fst hkm hF1 hM1 hls l3
          go_wp2
          go_ret
          exact ⟨rfl, hB⟩
        · have u3 : ((q : Int) == 1) = false := by simp; omega
          have u3' : (q == 1) = false := by simp; omega
          have u4 : ((c : Int) != 48) = true := by simp; omega
          clear hq hD hsz hd1 hq2 hf0 fst hkm hF1 hM1 hls l3
          go_wp2
          go_ret
          exact ⟨rfl, hB⟩

theorem digits_pos (n : Int) (w : World) (hT : Tab w) (hn : -9223372036854775808 ≤ n ∧ n ≤ 9223372036854775807) (h0 : ¬ n < 0) :
    Calls Tryd.prog 8 #[.int .i64 n] w fun e w' => e = .returned (.bool true) ∧ Below w.heap.size w w' := by
  have HN := Lib.hid hn
  obtain ⟨d, f, sn, hf, hd20⟩ := seen_prW n.natAbs (by omega)
  obtain ⟨s, hs⟩ : ∃ s : ByteArray, s = ⟨(pr n).toArray⟩ := ⟨_, rfl⟩
  have HS := Lib.hid (show S (pr n) = .string s by rw [hs]; rfl)
  have hl := list_of hs
  have ht : s.data.toList = prW n.natAbs := by rw [hl]; unfold pr; rw [if_neg h0]; rfl
  have sp : 0 < s.size := by
    have := (sn.text s ht).len
    have := (sn.text s ht).d1
    omega
  have f1 := full_empty sp
  have f2 := full_ne sp
  have q0 : decide (n < 0) = false := by simpa using h0
  have T := sn.text s ht
  have hm := tmod_nought n _ rfl
  have HM := Lib.hid (hm.trans hf.symm)
  have hsz := T.len
  have h8 := T.f8
  have hd := T.d1
  obtain ⟨r, hr⟩ : ∃ r, Int.tmod n 256 = r := ⟨_, rfl⟩
  have TS := Lib.hid T
  have tp : 0 < s.size := by split at hsz <;> omega
  have tb : s.size < 100 := by split at hsz <;> omega
  have SZ := Lib.hid hsz
  have HF := Lib.hid hf
  rw [hr] at HM
  clear hsz hf hm sn T ht hl hs hn hd20
  go_enter Tryd.func8, Tryd.ntmps8
  go_wp2_with fail
  refine (print_any n _ HN.out (by repeat (first | exact hT | refine Tab.step ?_ (by assumption)))).mono ?_
  rintro e w1 ⟨rfl, b1⟩
  rw [HS.out]
  go_wp2_with fail
  refine (shown_any _ (by repeat (first | exact hT | refine Tab.step ?_ (by assumption)))).mono ?_
  rintro e w2 ⟨rfl, b2⟩
  have hB := b1.trans (b2.mono b1.size)
  clear b1 b2
  go_wp2
  go_loop [5, 6] (fun s5 s6 => ∃ k q : Nat, k ≤ s.size ∧ s6 = .int .i64 k ∧ s5 = .int .i64 q ∧ q = dotV d s.size k) (fun _ s6 => s.size - (intOf s6).toNat)
  case atStart => exact ⟨0, s.size, Nat.zero_le _, rfl, rfl, (dotV_0 _ _).symm⟩
  case round =>
    obtain ⟨k, q, hk, rfl, rfl, hq⟩ := hrel
    by_cases hlt : k < s.size
    · obtain ⟨c, hc⟩ : ∃ c : Nat, s[k].toNat = c := ⟨_, rfl⟩
      by_cases hkd : k = d
      · have c46 : c = 46 := by rw [← hc]; subst hkd; exact TS.out.dot hlt
        have g1 : ((c : Int) == 46) = true := by simp; omega
        have hq2 : q = s.size := by rw [hq, hkd, dotV_at]
        have g2 : ((q : Int) == (s.size : Int)) = true := by simp; omega
        have g3 : (q == s.size) = true := by simp; omega
        have FIN := Lib.hid (show k = dotV d s.size (k + 1) by rw [hkd, dotV_hit])
        clear hq c46 hkd hq2
        go_wp2
        go_round
        case rel => exact ⟨k + 1, k, by omega, by go_num, rfl, FIN.out⟩
        case measure => simp [intOf]; omega
      · have cd := TS.out.dig k hlt hkd
        rw [hc] at cd
        have g1 : ((c : Int) == 46) = false := by simp; omega
        have g2 : decide ((c : Int) < 48) = false := by simp; omega
        have g3 : decide (57 < (c : Int)) = false := by simp; omega
        have g4 : decide (c < 48) = false := by simp; omega
        have g5 : decide (57 < c) = false := by simp; omega
        have FIN := Lib.hid (show q = dotV d s.size (k + 1) by rw [dotV_next _ _ _ hkd]; exact hq)
        clear hq cd hkd
        go_wp2
        go_round
        case rel => exact ⟨k + 1, q, by omega, by go_num, rfl, FIN.out⟩
        case measure => simp [intOf]; omega
    · have hkm : k = s.size := by omega
      obtain ⟨c, hc⟩ : ∃ c : Nat, s[0].toNat = c := ⟨_, rfl⟩
      have fst := TS.out.fst tp
      rw [hc] at fst
      have hD : q = dotV d s.size s.size := by rw [hq, hkm]
      have hsz := SZ.out
      by_cases hf0 : f = 0
      · rw [if_pos hf0] at hsz
        have hq2 : q = s.size := by rw [hD]; unfold dotV; rw [if_pos (by omega)]
        have r0 : (r == 0) = true := by simp; exact HM.out.2 hf0
        have u1 : ((q : Int) == (s.size : Int)) = true := by simp; omega
        have u1' : (q == s.size) = true := by simp; omega
        have u2 : decide (1 ≤ (q : Int)) = true := by simp; omega
        have u2' : decide (1 ≤ q) = true := by simp; omega
        by_cases hd1 : d = 1
        · have u3 : ((q : Int) == 1) = true := by simp; omega
          have u3' : (q == 1) = true := by simp; omega
          clear hq hD hsz hd1 hq2 hf0 fst hkm
          go_wp2
          go_ret
          exact ⟨rfl, hB⟩
        · have u3 : ((q : Int) == 1) = false := by simp; omega
          have u3' : (q == 1) = false := by simp; omega
          have u4 : ((c : Int) != 48) = true := by simp; omega
          clear hq hD hsz hd1 hq2 hf0 fst hkm
          go_wp2
          go_ret
          exact ⟨rfl, hB⟩
      · rw [if_neg hf0] at hsz
        have hq2 : q = d := by rw [hD]; unfold dotV; rw [if_neg (by omega)]
        have r0 : (r == 0) = false := by simp; exact fun g => hf0 (HM.out.1 g)
        have u1 : ((q : Int) == (s.size : Int)) = false := by simp; omega
        have u1' : (q == s.size) = false := by simp; omega
        have u2 : decide (1 ≤ (q : Int)) = true := by simp; omega
        have u2' : decide (1 ≤ q) = true := by simp; omega
        obtain ⟨F1, hF1⟩ : ∃ F1 : Nat, F1 = f + 1 := ⟨_, rfl⟩
        obtain ⟨M1, hM1⟩ : ∃ M1 : Nat, M1 = s.size - 1 := ⟨_, rfl⟩
        have v1 : (s.size : Int) - (q : Int) = (F1 : Int) := by omega
        have v2 : (F1 : Int) - 1 = (f : Int) := by omega
        have v3 : (s.size : Int) - 1 = (M1 : Int) := by omega
        have v4 : decide (1 ≤ (f : Int)) = true := by simp; omega
        have v4' : decide (1 ≤ f) = true := by simp; omega
        have v5 : decide ((f : Int) ≤ 8) = true := by simp; omega
        have v5' : decide (f ≤ 8) = true := by simp; omega
        have mlt : M1 < s.size := by omega
        have hls := TS.out.lst M1 mlt (by omega)
        obtain ⟨c3, hc3⟩ : ∃ c3 : Nat, s[M1].toNat = c3 := ⟨_, rfl⟩
        have l3 : c3 ≠ 48 := by
          rw [← hc3]
          exact hls.resolve_left hf0
        have u5 : ((c3 : Int) != 48) = true := by simp; omega
        have bF : F1 < 100 := by omega
        by_cases hd1 : d = 1
        · have u3 : ((q : Int) == 1) = true := by simp; omega
          have u3' : (q == 1) = true := by simp; omega
          clear hq hD hsz hd1 hq2 hf0 fst hkm hF1 hM1 hls l3
          go_wp2
          go_ret
          exact ⟨rfl, hB⟩
        · have u3 : ((q : Int) == 1) = false := by simp; omega
          have u3' : (q == 1) = false := by simp; omega
          have u4 : ((c : Int) != 48) = true := by simp; omega
          clear hq hD hsz hd1 hq2 hf0 fst hkm hF1 hM1 hls l3
          go_wp2
          go_ret
          exact ⟨rfl, hB⟩

theorem walk_FixDigits (n : Int) (w : World) (hT : Tab w) (hn : -9223372036854775808 ≤ n ∧ n ≤ 9223372036854775807) :
    Calls Tryd.prog 8 #[.int .i64 n] w fun e w' => e = .returned (.bool true) ∧ Below w.heap.size w w' := by
  by_cases h : n < 0
  · exact digits_neg n w hT hn h
  · exact digits_pos n w hT hn h
end Go.Proofs.YtflnchbamlcgaaaDoor
