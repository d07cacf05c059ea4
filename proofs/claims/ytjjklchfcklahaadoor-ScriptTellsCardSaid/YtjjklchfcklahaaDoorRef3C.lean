/- What the document's own texts of parts are: Print. -/
import Derived.Test.YtjjklchfcklahaaDoorRef3B
namespace Go.Proofs.YtjjklchfcklahaaDoor
open Go.RowKit
set_option linter.unusedVariables false
set_option linter.unusedSimpArgs false
set_option maxHeartbeats 2000000

/-- How many digits behind the point x parts of 256 have. -/
def steps (x : Nat) : Nat := ((List.range 8).filter fun j => x * 10 ^ j % 256 != 0).length
/-- The next f digits of x parts of 256. -/
def fr : Nat → Nat → List UInt8
  | 0, _ => []
  | f + 1, x => UInt8.ofNat (48 + x * 10 / 256) :: fr f (x * 10 % 256)
/-- The digits behind the point. -/
def frac (x : Nat) : List UInt8 := fr (steps x) x
theorem steps_fin : ∀ x : Fin 256, x.val ≠ 0 → steps x.val = steps (x.val * 10 % 256) + 1 := by decide +kernel
theorem steps_step {x : Nat} (h : x < 256) (h0 : x ≠ 0) : steps x = steps (x * 10 % 256) + 1 := steps_fin ⟨x, h⟩ h0
theorem frac_0 : frac 0 = [] := rfl
theorem frac_step {x : Nat} (h : x < 256) (h0 : x ≠ 0) : frac x = Lib.decDigits (x * 10 / 256) ++ frac (x * 10 % 256) := by
  unfold frac
  rw [steps_step h h0, fr, Lib.decDigits_one (by omega)]
  rfl
theorem frac_len {x : Nat} (h : x < 256) : (frac x).length ≤ 8 := (by decide +kernel : ∀ x : Fin 256, (frac x.val).length ≤ 8) ⟨x, h⟩
/-- The whole pixels and the point, of A parts. -/
def prW (A : Nat) : List UInt8 := Lib.decDigits (A / 256) ++ (if A % 256 = 0 then [] else 46 :: frac (A % 256))
/-- The text of n parts. -/
def pr (n : Int) : List UInt8 := (if n < 0 then [45] else []) ++ prW n.natAbs
theorem size_list (s : ByteArray) : s.data.toList.length = s.size := Array.length_toList
theorem text_size {t : ByteArray} {r l : List UInt8} (h : t.data.toList ++ r = l) (hl : l.length ≤ 30) : t.size ≤ 30 := by
  rw [← h, List.length_append, size_list] at hl; omega
theorem size_of {l : List UInt8} {s : ByteArray} (h : s = ⟨l.toArray⟩) : s.size = l.length := by rw [h]; rfl
theorem list_of {l : List UInt8} {s : ByteArray} (h : s = ⟨l.toArray⟩) : s.data.toList = l := by rw [h]

theorem rprint_neg (n : Int) (A : Nat) (w : World) (hn : -9223372036854775808 ≤ n ∧ n ≤ 9223372036854775807) (h0 : n < 0) (hA : n.natAbs = A) :
    Calls Tryd.prog 15 #[.int .i64 n] w fun e w' => e = .returned (S (pr n)) ∧ Below w.heap.size w w' := by
  have bA : A ≤ 9223372036854775808 := by omega
  have q0 : decide (n < 0) = true := by simp; omega
  have hu : IntKind.u64.wrap (-IntKind.u64.wrap n) = (A : Int) := by simp only [IntKind.wrap_u64]; omega
  obtain ⟨D, hDD⟩ : ∃ D : Nat, A / 256 = D := ⟨_, rfl⟩
  obtain ⟨L, hL⟩ : ∃ L : Nat, A % 256 = L := ⟨_, rfl⟩
  have hd := Lib.decDigits_length D
  have hd2 := Lib.nDigits_le20 D (by omega)
  obtain ⟨dd, hdd⟩ : ∃ dd : ByteArray, dd = ⟨(Lib.decDigits D).toArray⟩ := ⟨_, rfl⟩
  have ds : dd.size ≤ 20 := by rw [size_of hdd]; omega
  have HP := Lib.hid (show pr n = [45] ++ dd.data.toList ++ (if L = 0 then [] else 46 :: frac L) by
    unfold pr prW; rw [hA, if_pos (by omega), hDD, hL, hdd]; rfl)
  have HPL := Lib.hid (show (pr n).length ≤ 30 by
    rw [HP.out]
    have hfl := frac_len (show L < 256 by omega)
    split <;> simp <;> omega)
  have HD := Lib.hid (show S (Lib.decDigits D) = .string dd by rw [hdd]; rfl)
  have hL2 : L < 256 := by omega
  have hL3 : (A : Int) % 256 = L := by omega
  have hQ : (A : Int) / 256 = D := by omega
  have hwD : IntKind.u64.wrap (D : Int) = D := IntWalk.u64_in _ (by omega)
  have hwL : IntKind.u64.wrap (L : Int) = L := IntWalk.u64_in _ (by omega)
  have HQ2 := Lib.hid (show D < 18446744073709551616 by omega)
  clear hd hd2 hdd hA h0 hn bA hL hDD
  go_enter Tryd.func15, Tryd.ntmps15
  go_wp2_with fail
  refine (digits_any D _ HQ2.out).mono ?_
  rintro e w1 ⟨rfl, h1⟩
  rw [HD.out]
  by_cases hL0 : L = 0
  · have HS := Lib.hid hL0
    have hL1 : decide (0 < L) = false := by simp; omega
    have HP3 := Lib.hid (show pr n = [45] ++ dd.data.toList ++ frac L by rw [HP.out, hL0]; simp [frac_0])
    clear HP
    go_wp2
    go_loopw [3, 5] (fun s3 s5 wr => ∃ (x : Nat) (t : ByteArray), s5 = .int .u64 x ∧ s3 = .string t ∧ t.data.toList ++ frac x = pr n ∧ x < 256 ∧ Below w.heap.size w wr) (fun s3 s5 _ => steps (intOf s5).toNat)
    case atStart => exact ⟨L, _, by rw [hL3], rfl, (congrArg (· ++ frac L) (cat_list _ _)).trans HP3.out.symm, hL2, h1⟩
    case round =>
      clear hL3 hL1 hL0 hQ hwD hwL
      obtain ⟨x, t, rfl, rfl, ht, hx, hB⟩ := hrel
      have ts : t.size ≤ 30 := text_size ht HPL.out
      have HT := Lib.hid ht
      clear ht
      by_cases hx0 : x = 0
      · subst hx0
        have FIN := Lib.hid (str_eq (show t.data.toList = pr n by rw [← HT.out, frac_0, List.append_nil]))
        go_wp2
        go_ret
        exact ⟨by rw [FIN.out]; rfl, hB⟩
      · obtain ⟨y, hy⟩ : ∃ y : Nat, x * 10 / 256 = y := ⟨_, rfl⟩
        obtain ⟨z, hz⟩ : ∃ z : Nat, x * 10 % 256 = z := ⟨_, rfl⟩
        have HF := Lib.hid (show frac x = Lib.decDigits y ++ frac z by rw [← hy, ← hz]; exact frac_step hx hx0)
        have HM := Lib.hid (show steps z < steps x by rw [← hz, steps_step hx hx0]; exact Nat.lt_succ_self _)
        obtain ⟨d2, hd2⟩ : ∃ d2 : ByteArray, d2 = ⟨(Lib.decDigits y).toArray⟩ := ⟨_, rfl⟩
        have hs2 : d2.size ≤ 20 := by rw [size_of hd2, Lib.decDigits_length]; exact Lib.nDigits_le20 y (by omega)
        have HD2 := Lib.hid (show S (Lib.decDigits y) = .string d2 by rw [hd2]; rfl)
        have HL2 := Lib.hid (list_of hd2)
        have e1 : IntKind.u64.wrap ((x : Int) * 10) = (x : Int) * 10 := IntWalk.u64_in _ (by omega)
        have e2 : (x : Int) * 10 / 256 = y := by omega
        have e3 : (x : Int) * 10 % 256 = z := by omega
        have e4 : IntKind.u64.wrap (y : Int) = y := IntWalk.u64_in _ (by omega)
        have e5 : IntKind.u64.wrap (z : Int) = z := IntWalk.u64_in _ (by omega)
        have e6 : decide (0 < x) = true := by simp; omega
        have hz2 : z < 256 := by omega
        have HY := Lib.hid (show y < 18446744073709551616 by omega)
        clear hy hz hd2 hx0
        go_wp2_with fail
        refine (digits_any y _ HY.out).mono ?_
        rintro e w2 ⟨rfl, h2⟩
        rw [HD2.out]
        have hB2 := hB.trans (h2.mono hB.size)
        clear h2 hB
        go_wp2
        go_roundw
        case rel => exact ⟨z, _, by rw [e3], rfl, by rw [cat_list, HL2.out, List.append_assoc, ← HF.out]; exact HT.out, hz2, hB2⟩
        case measure => simpa [intOf, e3] using HM.out
  · have hL1 : decide (0 < L) = true := by simp; omega
    have HP3 := Lib.hid (show pr n = [45] ++ dd.data.toList ++ [46] ++ frac L by rw [HP.out, if_neg hL0]; simp)
    clear HP
    go_wp2
    go_loopw [3, 5] (fun s3 s5 wr => ∃ (x : Nat) (t : ByteArray), s5 = .int .u64 x ∧ s3 = .string t ∧ t.data.toList ++ frac x = pr n ∧ x < 256 ∧ Below w.heap.size w wr) (fun s3 s5 _ => steps (intOf s5).toNat)
    case atStart => exact ⟨L, _, by rw [hL3], rfl, (congrArg (· ++ frac L) ((cat_list _ _).trans (congrArg (· ++ [46]) (cat_list _ _)))).trans HP3.out.symm, hL2, h1⟩
    case round =>
      clear hL3 hL1 hL0 hQ hwD hwL
      obtain ⟨x, t, rfl, rfl, ht, hx, hB⟩ := hrel
      have ts : t.size ≤ 30 := text_size ht HPL.out
      have HT := Lib.hid ht
      clear ht
      by_cases hx0 : x = 0
      · subst hx0
        have FIN := Lib.hid (str_eq (show t.data.toList = pr n by rw [← HT.out, frac_0, List.append_nil]))
        go_wp2
        go_ret
        exact ⟨by rw [FIN.out]; rfl, hB⟩
      · obtain ⟨y, hy⟩ : ∃ y : Nat, x * 10 / 256 = y := ⟨_, rfl⟩
        obtain ⟨z, hz⟩ : ∃ z : Nat, x * 10 % 256 = z := ⟨_, rfl⟩
        have HF := Lib.hid (show frac x = Lib.decDigits y ++ frac z by rw [← hy, ← hz]; exact frac_step hx hx0)
        have HM := Lib.hid (show steps z < steps x by rw [← hz, steps_step hx hx0]; exact Nat.lt_succ_self _)
        obtain ⟨d2, hd2⟩ : ∃ d2 : ByteArray, d2 = ⟨(Lib.decDigits y).toArray⟩ := ⟨_, rfl⟩
        have hs2 : d2.size ≤ 20 := by rw [size_of hd2, Lib.decDigits_length]; exact Lib.nDigits_le20 y (by omega)
        have HD2 := Lib.hid (show S (Lib.decDigits y) = .string d2 by rw [hd2]; rfl)
        have HL2 := Lib.hid (list_of hd2)
        have e1 : IntKind.u64.wrap ((x : Int) * 10) = (x : Int) * 10 := IntWalk.u64_in _ (by omega)
        have e2 : (x : Int) * 10 / 256 = y := by omega
        have e3 : (x : Int) * 10 % 256 = z := by omega
        have e4 : IntKind.u64.wrap (y : Int) = y := IntWalk.u64_in _ (by omega)
        have e5 : IntKind.u64.wrap (z : Int) = z := IntWalk.u64_in _ (by omega)
        have e6 : decide (0 < x) = true := by simp; omega
        have hz2 : z < 256 := by omega
        have HY := Lib.hid (show y < 18446744073709551616 by omega)
        clear hy hz hd2 hx0
        go_wp2_with fail
        refine (digits_any y _ HY.out).mono ?_
        rintro e w2 ⟨rfl, h2⟩
        rw [HD2.out]
        have hB2 := hB.trans (h2.mono hB.size)
        clear h2 hB
        go_wp2
        go_roundw
        case rel => exact ⟨z, _, by rw [e3], rfl, by rw [cat_list, HL2.out, List.append_assoc, ← HF.out]; exact HT.out, hz2, hB2⟩
        case measure => simpa [intOf, e3] using HM.out

theorem rprint_pos (n : Int) (A : Nat) (w : World) (hn : -9223372036854775808 ≤ n ∧ n ≤ 9223372036854775807) (h0 : 0 ≤ n) (hA : n.natAbs = A) :
    Calls Tryd.prog 15 #[.int .i64 n] w fun e w' => e = .returned (S (pr n)) ∧ Below w.heap.size w w' := by
  have bA : A ≤ 9223372036854775808 := by omega
  have q0 : decide (n < 0) = false := by simp; omega
  have hu : IntKind.u64.wrap n = (A : Int) := by simp only [IntKind.wrap_u64]; omega
  obtain ⟨D, hDD⟩ : ∃ D : Nat, A / 256 = D := ⟨_, rfl⟩
  obtain ⟨L, hL⟩ : ∃ L : Nat, A % 256 = L := ⟨_, rfl⟩
  have hd := Lib.decDigits_length D
  have hd2 := Lib.nDigits_le20 D (by omega)
  obtain ⟨dd, hdd⟩ : ∃ dd : ByteArray, dd = ⟨(Lib.decDigits D).toArray⟩ := ⟨_, rfl⟩
  have ds : dd.size ≤ 20 := by rw [size_of hdd]; omega
  have HP := Lib.hid (show pr n = [] ++ dd.data.toList ++ (if L = 0 then [] else 46 :: frac L) by
    unfold pr prW; rw [hA, if_neg (by omega), hDD, hL, hdd]; rfl)
  have HPL := Lib.hid (show (pr n).length ≤ 30 by
    rw [HP.out]
    have hfl := frac_len (show L < 256 by omega)
    split <;> simp <;> omega)
  have HD := Lib.hid (show S (Lib.decDigits D) = .string dd by rw [hdd]; rfl)
  have hL2 : L < 256 := by omega
  have hL3 : (A : Int) % 256 = L := by omega
  have hQ : (A : Int) / 256 = D := by omega
  have hwD : IntKind.u64.wrap (D : Int) = D := IntWalk.u64_in _ (by omega)
  have hwL : IntKind.u64.wrap (L : Int) = L := IntWalk.u64_in _ (by omega)
  have HQ2 := Lib.hid (show D < 18446744073709551616 by omega)
  clear hd hd2 hdd hA h0 hn bA hL hDD
  go_enter Tryd.func15, Tryd.ntmps15
  go_wp2_with fail
  refine (digits_any D _ HQ2.out).mono ?_
  rintro e w1 ⟨rfl, h1⟩
  rw [HD.out]
  by_cases hL0 : L = 0
  · have HS := Lib.hid hL0
    have hL1 : decide (0 < L) = false := by simp; omega
    have HP3 := Lib.hid (show pr n = [] ++ dd.data.toList ++ frac L by rw [HP.out, hL0]; simp [frac_0])
    clear HP
    go_wp2
    go_loopw [3, 5] (fun s3 s5 wr => ∃ (x : Nat) (t : ByteArray), s5 = .int .u64 x ∧ s3 = .string t ∧ t.data.toList ++ frac x = pr n ∧ x < 256 ∧ Below w.heap.size w wr) (fun s3 s5 _ => steps (intOf s5).toNat)
    case atStart => exact ⟨L, _, by rw [hL3], rfl, (congrArg (· ++ frac L) (cat_list _ _)).trans HP3.out.symm, hL2, h1⟩
    case round =>
      clear hL3 hL1 hL0 hQ hwD hwL
      obtain ⟨x, t, rfl, rfl, ht, hx, hB⟩ := hrel
      have ts : t.size ≤ 30 := text_size ht HPL.out
      have HT := Lib.hid ht
      clear ht
      by_cases hx0 : x = 0
      · subst hx0
        have FIN := Lib.hid (str_eq (show t.data.toList = pr n by rw [← HT.out, frac_0, List.append_nil]))
        go_wp2
        go_ret
        exact ⟨by rw [FIN.out]; rfl, hB⟩
      · obtain ⟨y, hy⟩ : ∃ y : Nat, x * 10 / 256 = y := ⟨_, rfl⟩
        obtain ⟨z, hz⟩ : ∃ z : Nat, x * 10 % 256 = z := ⟨_, rfl⟩
        have HF := Lib.hid (show frac x = Lib.decDigits y ++ frac z by rw [← hy, ← hz]; exact frac_step hx hx0)
        have HM := Lib.hid (show steps z < steps x by rw [← hz, steps_step hx hx0]; exact Nat.lt_succ_self _)
        obtain ⟨d2, hd2⟩ : ∃ d2 : ByteArray, d2 = ⟨(Lib.decDigits y).toArray⟩ := ⟨_, rfl⟩
        have hs2 : d2.size ≤ 20 := by rw [size_of hd2, Lib.decDigits_length]; exact Lib.nDigits_le20 y (by omega)
        have HD2 := Lib.hid (show S (Lib.decDigits y) = .string d2 by rw [hd2]; rfl)
        have HL2 := Lib.hid (list_of hd2)
        have e1 : IntKind.u64.wrap ((x : Int) * 10) = (x : Int) * 10 := IntWalk.u64_in _ (by omega)
        have e2 : (x : Int) * 10 / 256 = y := by omega
        have e3 : (x : Int) * 10 % 256 = z := by omega
        have e4 : IntKind.u64.wrap (y : Int) = y := IntWalk.u64_in _ (by omega)
        have e5 : IntKind.u64.wrap (z : Int) = z := IntWalk.u64_in _ (by omega)
        have e6 : decide (0 < x) = true := by simp; omega
        have hz2 : z < 256 := by omega
        have HY := Lib.hid (show y < 18446744073709551616 by omega)
        clear hy hz hd2 hx0
        go_wp2_with fail
        refine (digits_any y _ HY.out).mono ?_
        rintro e w2 ⟨rfl, h2⟩
        rw [HD2.out]
        have hB2 := hB.trans (h2.mono hB.size)
        clear h2 hB
        go_wp2
        go_roundw
        case rel => exact ⟨z, _, by rw [e3], rfl, by rw [cat_list, HL2.out, List.append_assoc, ← HF.out]; exact HT.out, hz2, hB2⟩
        case measure => simpa [intOf, e3] using HM.out
  · have hL1 : decide (0 < L) = true := by simp; omega
    have HP3 := Lib.hid (show pr n = [] ++ dd.data.toList ++ [46] ++ frac L by rw [HP.out, if_neg hL0]; simp)
    clear HP
    go_wp2
    go_loopw [3, 5] (fun s3 s5 wr => ∃ (x : Nat) (t : ByteArray), s5 = .int .u64 x ∧ s3 = .string t ∧ t.data.toList ++ frac x = pr n ∧ x < 256 ∧ Below w.heap.size w wr) (fun s3 s5 _ => steps (intOf s5).toNat)
    case atStart => exact ⟨L, _, by rw [hL3], rfl, (congrArg (· ++ frac L) ((cat_list _ _).trans (congrArg (· ++ [46]) (cat_list _ _)))).trans HP3.out.symm, hL2, h1⟩
    case round =>
      clear hL3 hL1 hL0 hQ hwD hwL
      obtain ⟨x, t, rfl, rfl, ht, hx, hB⟩ := hrel
      have ts : t.size ≤ 30 := text_size ht HPL.out
      have HT := Lib.hid ht
      clear ht
      by_cases hx0 : x = 0
      · subst hx0
        have FIN := Lib.hid (str_eq (show t.data.toList = pr n by rw [← HT.out, frac_0, List.append_nil]))
        go_wp2
        go_ret
        exact ⟨by rw [FIN.out]; rfl, hB⟩
      · obtain ⟨y, hy⟩ : ∃ y : Nat, x * 10 / 256 = y := ⟨_, rfl⟩
        obtain ⟨z, hz⟩ : ∃ z : Nat, x * 10 % 256 = z := ⟨_, rfl⟩
        have HF := Lib.hid (show frac x = Lib.decDigits y ++ frac z by rw [← hy, ← hz]; exact frac_step hx hx0)
        have HM := Lib.hid (show steps z < steps x by rw [← hz, steps_step hx hx0]; exact Nat.lt_succ_self _)
        obtain ⟨d2, hd2⟩ : ∃ d2 : ByteArray, d2 = ⟨(Lib.decDigits y).toArray⟩ := ⟨_, rfl⟩
        have hs2 : d2.size ≤ 20 := by rw [size_of hd2, Lib.decDigits_length]; exact Lib.nDigits_le20 y (by omega)
        have HD2 := Lib.hid (show S (Lib.decDigits y) = .string d2 by rw [hd2]; rfl)
        have HL2 := Lib.hid (list_of hd2)
        have e1 : IntKind.u64.wrap ((x : Int) * 10) = (x : Int) * 10 := IntWalk.u64_in _ (by omega)
        have e2 : (x : Int) * 10 / 256 = y := by omega
        have e3 : (x : Int) * 10 % 256 = z := by omega
        have e4 : IntKind.u64.wrap (y : Int) = y := IntWalk.u64_in _ (by omega)
        have e5 : IntKind.u64.wrap (z : Int) = z := IntWalk.u64_in _ (by omega)
        have e6 : decide (0 < x) = true := by simp; omega
        have hz2 : z < 256 := by omega
        have HY := Lib.hid (show y < 18446744073709551616 by omega)
        clear hy hz hd2 hx0
        go_wp2_with fail
        refine (digits_any y _ HY.out).mono ?_
        rintro e w2 ⟨rfl, h2⟩
        rw [HD2.out]
        have hB2 := hB.trans (h2.mono hB.size)
        clear h2 hB
        go_wp2
        go_roundw
        case rel => exact ⟨z, _, by rw [e3], rfl, by rw [cat_list, HL2.out, List.append_assoc, ← HF.out]; exact HT.out, hz2, hB2⟩
        case measure => simpa [intOf, e3] using HM.out

theorem rprint_any (n : Int) (w : World) (hn : -9223372036854775808 ≤ n ∧ n ≤ 9223372036854775807) :
    Calls Tryd.prog 15 #[.int .i64 n] w fun e w' => e = .returned (S (pr n)) ∧ Below w.heap.size w w' := by
  by_cases h : n < 0
  · exact rprint_neg n _ w hn h rfl
  · exact rprint_pos n _ w hn (by omega) rfl
end Go.Proofs.YtjjklchfcklahaaDoor
