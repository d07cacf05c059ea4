/- Two words divided by one: what the steps of the school division come to. -/
import Derived.Test.YtfgkndfcddnhlaaDivNum
import Derived.Lib.ItoaNum
import Derived.Laws.BitsAllLaws
import Derived.Laws.Bits64b
namespace Go.Proofs.Ytfgkndfcddnhlaa.Kn
open Go.RowKit

theorem shift_pair (y : Nat) (h0 : y ≠ 0) (h1 : y < 2 ^ 64) : ∃ k : Nat, k ≤ 63 ∧ (64 - (Lib.bitLen y : Int) = (k : Int)) ∧ 9223372036854775808 ≤ y * 2 ^ k ∧ y * 2 ^ k < 18446744073709551616 := by
  have hb := Lib.bitLenAux_bounds 64 y h1 h0
  have hle : Lib.bitLenAux 64 y ≤ 64 := by
    refine Nat.le_of_not_lt (fun g => ?_)
    have : 2 ^ 64 ≤ 2 ^ (Lib.bitLenAux 64 y - 1) := Nat.pow_le_pow_right (by omega) (by omega)
    omega
  refine ⟨64 - Lib.bitLenAux 64 y, by omega, ?_, ?_, ?_⟩
  · show 64 - ((Lib.bitLenAux 64 y : Nat) : Int) = _
    omega
  · have e : 2 ^ (Lib.bitLenAux 64 y - 1) * 2 ^ (64 - Lib.bitLenAux 64 y) = 9223372036854775808 := by
      rw [← Nat.pow_add, show Lib.bitLenAux 64 y - 1 + (64 - Lib.bitLenAux 64 y) = 63 from by omega]
    rw [← e]; exact Nat.mul_le_mul_right _ hb.2.1
  · have e : 2 ^ (Lib.bitLenAux 64 y) * 2 ^ (64 - Lib.bitLenAux 64 y) = 18446744073709551616 := by
      rw [← Nat.pow_add, show Lib.bitLenAux 64 y + (64 - Lib.bitLenAux 64 y) = 64 from by omega]
    rw [← e]; exact Nat.mul_lt_mul_of_pos_right hb.2.2 (Nat.pow_pos (by omega))

/-- The dividend, shifted: its two words. -/
theorem words (h lo y k : Nat) (hh : h < y) (hl : lo < 18446744073709551616) (hk : k ≤ 63) (hY : y * 2 ^ k < 18446744073709551616) :
    bits BinOp.or IntKind.u64 (IntKind.u64.wrap ((h : Int) * 2 ^ k)) ((lo : Int) / 2 ^ (64 - k)) = ((h * 2 ^ k + lo / 2 ^ (64 - k) : Nat) : Int) ∧
    h * 2 ^ k + lo / 2 ^ (64 - k) < y * 2 ^ k ∧
    IntKind.u64.wrap ((lo : Int) * 2 ^ k) = ((lo % 2 ^ (64 - k) * 2 ^ k : Nat) : Int) ∧
    (h * 2 ^ k + lo / 2 ^ (64 - k)) * 18446744073709551616 + lo % 2 ^ (64 - k) * 2 ^ k = (h * 18446744073709551616 + lo) * 2 ^ k ∧
    lo % 2 ^ (64 - k) * 2 ^ k < 18446744073709551616 := by
  have hTP : 2 ^ k * 2 ^ (64 - k) = 18446744073709551616 := by
    rw [← Nat.pow_add, show k + (64 - k) = 64 from by omega]
  have hP : 0 < 2 ^ (64 - k) := Nat.pow_pos (by omega)
  have hT : 0 < 2 ^ k := Nat.pow_pos (by omega)
  have hb : lo / 2 ^ (64 - k) < 2 ^ k := by
    refine Nat.div_lt_of_lt_mul ?_
    rw [Nat.mul_comm, hTP]; exact hl
  have hm : lo % 2 ^ (64 - k) < 2 ^ (64 - k) := Nat.mod_lt _ hP
  have hd := Nat.div_add_mod lo (2 ^ (64 - k))
  have h1 : (h + 1) * 2 ^ k ≤ y * 2 ^ k := Nat.mul_le_mul_right _ hh
  rw [Nat.add_mul] at h1
  have hmt : lo % 2 ^ (64 - k) * 2 ^ k + 2 ^ k ≤ 18446744073709551616 := by
    have := Nat.mul_le_mul_right (2 ^ k) hm
    rw [Nat.succ_mul, Nat.mul_comm (2 ^ (64 - k)), hTP] at this
    exact this
  have c1 : ((2 : Int) ^ k) = ((2 ^ k : Nat) : Int) := by simp
  have c2 : ((2 : Int) ^ (64 - k)) = ((2 ^ (64 - k) : Nat) : Int) := by simp
  have elo : lo * 2 ^ k = lo / 2 ^ (64 - k) * 18446744073709551616 + lo % 2 ^ (64 - k) * 2 ^ k := by
    rw [← hTP]
    conv => lhs; rw [← hd]
    rw [Nat.add_mul, Nat.mul_comm (2 ^ (64 - k)) (lo / 2 ^ (64 - k)), Nat.mul_assoc, Nat.mul_comm (2 ^ (64 - k))]
  refine ⟨?_, by omega, ?_, ?_, by omega⟩
  · rw [c1, c2, ← Int.natCast_mul, ← Int.natCast_ediv, IntKind.wrap_u64]
    have e : (((h * 2 ^ k : Nat) : Int) % 18446744073709551616) = ((h * 2 ^ k : Nat) : Int) := by
      refine Int.emod_eq_of_lt (by omega) ?_
      have : h * 2 ^ k < 18446744073709551616 := by omega
      omega
    rw [e, u64_or_nat _ _ (by omega) (by omega), Nat.mul_comm h, ← Nat.two_pow_add_eq_or_of_lt hb]
  · rw [c1, ← Int.natCast_mul, IntKind.wrap_u64, elo]
    omega
  · rw [Nat.add_mul, Nat.add_mul, elo, Nat.mul_right_comm h]
    omega

/-- Quotient and rest of the shifted dividend are those of the dividend. -/
theorem unshift (n y t : Int) (ht : 0 < t) : n * t / (y * t) = n / y ∧ n * t % (y * t) / t = n % y := by
  refine ⟨Int.mul_ediv_mul_of_pos_left n y ht, ?_⟩
  have e : n * t % (y * t) = n % y * t := by
    rw [Int.emod_def, Int.emod_def, Int.mul_ediv_mul_of_pos_left n y ht, Int.sub_mul, Int.mul_right_comm y t]
  rw [e]
  exact Int.mul_ediv_cancel _ (by omega)
theorem ok_mk (V : Int) (l : Nat) (Y : Nat) (Yl : 9223372036854775808 ≤ Y) (Yu : Y < 18446744073709551616) (V0 : 0 ≤ V) (V1 : V < Y) (hl : l < 4294967296) :
    Ok V (l : Int) ((Y / 4294967296 : Nat) : Int) ((Y % 4294967296 : Nat) : Int) :=
  ⟨by omega, by omega, by omega, by omega, by omega, by omega, by omega, by omega⟩
theorem halves (Y : Nat) : (Y : Int) = ((Y / 4294967296 : Nat) : Int) * 4294967296 + ((Y % 4294967296 : Nat) : Int) := by omega
theorem half (Y : Nat) : (Y : Int) / 4294967296 = ((Y / 4294967296 : Nat) : Int) := by omega
theorem casts (U L h lo t : Nat) (hN : U * 18446744073709551616 + L = (h * 18446744073709551616 + lo) * t) :
    (U : Int) * 18446744073709551616 + (((L / 4294967296 : Nat) : Int) * 4294967296 + ((L % 4294967296 : Nat) : Int)) = ((h : Int) * 18446744073709551616 + lo) * (t : Int) := by
  rw [← halves L]
  have e := congrArg (fun n : Nat => (n : Int)) hN
  simp only [Int.natCast_add, Int.natCast_mul] at e
  exact e
end Go.Proofs.Ytfgkndfcddnhlaa.Kn
