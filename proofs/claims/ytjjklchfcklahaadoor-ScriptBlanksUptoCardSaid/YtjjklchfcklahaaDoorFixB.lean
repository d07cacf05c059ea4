/- What the program's own texts of parts are: Print, by the library's FormatUint, Repeat, TrimRight. -/
import Derived.Test.YtjjklchfcklahaaDoorShelf
import Derived.Test.YtjjklchfcklahaaDoorRef3C
import Derived.Lib.AppendIntMem
import Derived.Lib.ItoaMem
import Derived.Lib.RepeatB
import Derived.Lib.TrimByte
namespace Go.Proofs.YtjjklchfcklahaaDoor
open Go.RowKit Go.Sort
set_option linter.unusedVariables false
set_option linter.unusedSimpArgs false
set_option maxHeartbeats 6400000
set_option maxRecDepth 100000

/-- The table of powers of ten is as the library lays it. -/
def Tab (w : World) : Prop := Lib.TabIs Tryd.prog w "internal/strconv.uint64pow10" .u64 Lib.pow10Tab
theorem Tab.step {w w' : World} (h : Tab w) (hb : Below w.heap.size w w') : Tab w' := (Lib.tabBelow_of_tabIs h) w' hb

theorem fmtI_any (u : Nat) (w : World) (hu64 : u < 18446744073709551616) (hT : Tab w) :
    Calls Tryd.prog 48 #[.int .u64 u, .int .i64 10] w fun e w' => e = .returned (S (Lib.decDigits u)) ∧ Below w.heap.size w w' := by
  by_cases hs : u < 100
  · go_enter Tryd.func48, Tryd.ntmps48
    go_wp2_with (go_at_call 59; refine (Tryd.internal_strconv_small u hs _).mono ?_; rintro e w' ⟨rfl, rfl⟩)
    go_ret
    exact ⟨rfl, Below.refl _ _⟩
  · have hu1 : 1 ≤ u := by omega
    have hnd20 : Lib.nDigits u ≤ 20 := Lib.nDigits_le20 u hu64
    have hal : Tryd.prog.arrayLen 101 = 24 := by kernel_rfl
    have hsl : ∀ W, (Instr.sliceAt 101 (.pointer (some ⟨w.heap.size, 0, none⟩)) none (some (.int .i64 (Lib.nDigits u : Int))) none).run Tryd.prog W = .ok (.slice (some ⟨w.heap.size, 0, none⟩) (Lib.nDigits u) 24) W := fun W => by
      rw [run_sliceAt_array_h W 101 ⟨w.heap.size, 0, none⟩ (by kernel_rfl) .i64 (Lib.nDigits u : Int) (by omega) (by rw [hal]; omega)]
      go_simp
    have hH0 := Lib.holds_zero0 w 101 (Lib.nDigits u) (by omega)
    have hfmt := Tryd.internal_strconv_formatBase10 w.heap.size 0 24 u (Array.replicate (Lib.nDigits u) 0) (w.alloc (.cells Lib.zeros24 101)) hH0 (by rw [Array.size_replicate]; exact Lib.lt_pow_nDigits u) hu64 (by rw [Array.size_replicate]; omega)
    rw [Array.size_replicate] at hfmt
    have HH0 := Lib.hid hH0
    have iu : (100 : Int) ≤ (u : Int) := by omega
    clear hH0 hal
    go_enter Tryd.func48, Tryd.ntmps48
    go_wp2_with (go_at_call 60; refine (Tryd.internal_strconv_numDigits u hu1 hu64 _ (Lib.tabIs_alloc hT _)).mono ?_; rintro e w' ⟨rfl, rfl⟩)
    go_at_call 61
    refine hfmt.mono ?_
    rintro e w' ⟨rfl, k, v', dk, rfl, hF⟩
    have hcv : (convert 39 9 (.slice (some ⟨w.heap.size, 0, none⟩) (Lib.nDigits u) 24)).run Tryd.prog ((putRow (fun (b : UInt8) => Value.int .u8 (b.toNat : Int)) (w.alloc (.cells Lib.zeros24 101)) w.heap.size 0 dk).drewN k) = .ok (S (Lib.decDigits u)) ((putRow (fun (b : UInt8) => Value.int .u8 (b.toNat : Int)) (w.alloc (.cells Lib.zeros24 101)) w.heap.size 0 dk).drewN k) := by
      have h := run_convert_bytes_back (P := Tryd.prog) ((putRow (fun (b : UInt8) => Value.int .u8 (b.toNat : Int)) (w.alloc (.cells Lib.zeros24 101)) w.heap.size 0 dk).drewN k) 39 9 5 ⟨w.heap.size, 0, none⟩ 24 (Lib.decDigits u) Tryd.underlying39 Tryd.underlying5 Tryd.underlying9 (fun j hj => by
        rw [Lib.row_is_numeral hF j hj, Lib.add_plain, World.cell?_drewN]
        exact cell?_putRow (fun (b : UInt8) => Value.int .u8 (b.toNat : Int)) _ w.heap.size 0 _ dk HH0.out (by rw [hF.size, Array.size_replicate]) j (by rw [hF.size]; rw [Lib.decDigits_length] at hj; exact hj))
      rw [Lib.decDigits_length] at h
      exact h
    obtain ⟨os, eo⟩ := Lib.fin_at w (.cells Lib.zeros24 101) dk k 0
    have hb2 : Below w.heap.size w ((putRow (fun (b : UInt8) => Value.int .u8 (b.toNat : Int)) (w.alloc (.cells Lib.zeros24 101)) w.heap.size 0 dk).drewN k) := by rw [eo]; exact Lib.below_grow w.heap.size w (Nat.le_refl _) k os
    generalize (putRow (fun (b : UInt8) => Value.int .u8 (b.toNat : Int)) (w.alloc (.cells Lib.zeros24 101)) w.heap.size 0 dk).drewN k = W2 at hcv hb2 ⊢
    clear eo HH0 hfmt hF
    go_wp2
    go_ret
    exact ⟨rfl, hb2⟩
theorem fmtU_any (u : Nat) (w : World) (hu64 : u < 18446744073709551616) (hT : Tab w) :
    Calls Tryd.prog 32 #[.int .u64 u, .int .i64 10] w fun e w' => e = .returned (S (Lib.decDigits u)) ∧ Below w.heap.size w w' := by
  obtain ⟨t, ht⟩ : ∃ t : ByteArray, S (Lib.decDigits u) = .string t := ⟨_, rfl⟩
  have HT := Lib.hid ht
  clear ht
  go_enter Tryd.func32, Tryd.ntmps32
  go_wp2_with (go_at_call 48; refine (fmtI_any u _ hu64 hT).mono ?_; rintro e w1 ⟨rfl, h1⟩; rw [HT.out])
  go_ret
  exact ⟨by rw [HT.out]; rfl, h1⟩

/-- The k last digits of m. -/
def fx : Nat → Nat → List UInt8
  | 0, _ => []
  | k + 1, m => fx k (m / 10) ++ [UInt8.ofNat (48 + m % 10)]
theorem fx_0 (k : Nat) : fx k 0 = List.replicate k 48 := by
  induction k with
  | zero => rfl
  | succ k ih => rw [fx, List.replicate_succ', Nat.zero_div, ih]; rfl
theorem fx_dec : ∀ (k m : Nat), m < 10 ^ k → 0 < m → Lib.nDigits m ≤ k ∧ List.replicate (k - Lib.nDigits m) 48 ++ Lib.decDigits m = fx k m := by
  intro k
  induction k with
  | zero => intro m h h0; simp at h; omega
  | succ k ih =>
    intro m h h0
    by_cases h10 : m < 10
    · rw [Lib.nDigits_small h10, Lib.decDigits_one h10, fx, show m / 10 = 0 by omega, show m % 10 = m by omega, fx_0]
      exact ⟨by omega, rfl⟩
    · obtain ⟨h1, h2⟩ := ih (m / 10) (by rw [Nat.pow_succ] at h; omega) (by omega)
      rw [Lib.nDigits_big h10, Lib.decDigits, dif_neg h10, fx, ← h2, ← List.append_assoc, show k + 1 - (Lib.nDigits (m / 10) + 1) = k - Lib.nDigits (m / 10) by omega]
      exact ⟨by omega, rfl⟩
theorem trim_fin : ∀ x : Fin 256, x.val ≠ 0 → Lib.trimRightB (fx 8 (x.val * 390625)) 48 = frac x.val := by decide +kernel
theorem rep_48 (c : Nat) : Lib.repeatL [48] c = List.replicate c 48 := by
  induction c with
  | zero => rfl
  | succ c ih => rw [Lib.repeatL, ih]; rfl

theorem print_at (n : Int) (A : Nat) (sg : ByteArray) (w : World) (hn : -9223372036854775808 ≤ n ∧ n ≤ 9223372036854775807) (hA : n.natAbs = A) (hT : Tab w)
    (L D : Nat) (hL : A % 256 = L) (hD : A / 256 = D) (neg : Bool) (h0 : decide (n < 0) = neg) (hsg : sg = if neg then ⟨#[45]⟩ else ⟨#[]⟩) :
    Calls Tryd.prog 18 #[.int .i64 n] w fun e w' => e = .returned (S (pr n)) ∧ Below w.heap.size w w' := by
  have bA : A ≤ 9223372036854775808 := by omega
  have bL : L < 256 := by omega
  have hd := Lib.decDigits_length D
  have hd2 := Lib.nDigits_le20 D (by omega)
  obtain ⟨dd, hdd⟩ : ∃ dd : ByteArray, dd = ⟨(Lib.decDigits D).toArray⟩ := ⟨_, rfl⟩
  have ds : dd.size ≤ 20 := by rw [size_of hdd]; omega
  have HD := Lib.hid (show S (Lib.decDigits D) = .string dd by rw [hdd]; rfl)
  have hL3 : (A : Int) % 256 = L := by omega
  have hQ : (A : Int) / 256 = D := by omega
  have hwD : IntKind.u64.wrap (D : Int) = D := IntWalk.u64_in _ (by omega)
  have hwL : IntKind.u64.wrap (L : Int) = L := IntWalk.u64_in _ (by omega)
  have HQ2 := Lib.hid (show D < 18446744073709551616 by omega)
  have hu : neg = true → IntKind.u64.wrap (-IntKind.u64.wrap n) = (A : Int) := by intro hneg; rw [hneg] at h0; simp at h0; simp only [IntKind.wrap_u64]; omega
  have hv : neg = false → IntKind.u64.wrap n = (A : Int) := by intro hneg; rw [hneg] at h0; simp at h0; simp only [IntKind.wrap_u64]; omega
  have ss : sg.size ≤ 1 := by rw [hsg]; cases neg <;> decide
  have HP := Lib.hid (show pr n = sg.data.toList ++ dd.data.toList ++ (if L = 0 then [] else 46 :: frac L) by
    unfold pr prW
    rw [hA, hD, hL, hdd, hsg]
    cases neg with
    | true => simp at h0; rw [if_pos h0]; rfl
    | false => simp at h0; rw [if_neg (by omega)]; rfl)
  by_cases hL0 : L = 0
  · have HF := Lib.hid (str_eq (show (sg ++ dd).data.toList = pr n by rw [HP.out, if_pos hL0, cat_list, List.append_nil]))
    have q0 : ((L : Int) == 0) = true := by simp; omega
    clear hL hA hD hdd hd hd2 hn bA HP hL0
    cases neg with
    | true =>
      have hu := hu rfl
      clear hv
      rw [if_pos rfl] at hsg
      subst hsg
      go_enter Tryd.func18, Tryd.ntmps18
      go_wp2_with fail
      refine (fmtU_any D _ HQ2.out hT).mono ?_
      rintro e w1 ⟨rfl, h1⟩
      rw [HD.out]
      go_wp2
      go_ret
      exact ⟨by rw [← HF.out]; rfl, h1⟩
    | false =>
      have hv := hv rfl
      clear hu
      rw [if_neg (by simp)] at hsg
      subst hsg
      go_enter Tryd.func18, Tryd.ntmps18
      go_wp2_with fail
      refine (fmtU_any D _ HQ2.out hT).mono ?_
      rintro e w1 ⟨rfl, h1⟩
      rw [HD.out]
      go_wp2
      go_ret
      exact ⟨by rw [← HF.out]; rfl, h1⟩
  · have q0 : ((L : Int) == 0) = false := by simp; omega
    obtain ⟨M, hM⟩ : ∃ M : Nat, L * 390625 = M := ⟨_, rfl⟩
    have fd := fx_dec 8 M (by rw [← hM]; omega) (by omega)
    have hM2 : (L : Int) * 390625 = M := by omega
    have hwM : IntKind.u64.wrap (M : Int) = M := IntWalk.u64_in _ (by omega)
    have HM2 := Lib.hid (show M < 18446744073709551616 by omega)
    obtain ⟨md, hmd⟩ : ∃ md : ByteArray, md = ⟨(Lib.decDigits M).toArray⟩ := ⟨_, rfl⟩
    have HMD := Lib.hid (show S (Lib.decDigits M) = .string md by rw [hmd]; rfl)
    have ms : md.size = Lib.nDigits M := by rw [size_of hmd, Lib.decDigits_length]
    obtain ⟨C, hC⟩ : ∃ C : Nat, 8 - Lib.nDigits M = C := ⟨_, rfl⟩
    have hC2 : IntKind.i64.wrap (8 - (md.size : Int)) = C := by rw [ms, IntWalk.i64_in _ (by omega)]; omega
    obtain ⟨rp, hrp⟩ : ∃ rp : ByteArray, rp = ⟨(Lib.repeatL [48] C).toArray⟩ := ⟨_, rfl⟩
    have rs : rp.size = C := by rw [size_of hrp, rep_48, List.length_replicate]
    have hb8 : (rp ++ md).data.toList = fx 8 M := by rw [cat_list, list_of hrp, list_of hmd, rep_48, ← hC]; exact fd.2
    obtain ⟨tr, htr⟩ : ∃ tr : ByteArray, tr = ⟨(Lib.trimRightB (rp ++ md).data.toList 48).toArray⟩ := ⟨_, rfl⟩
    have htr2 : tr.data.toList = frac L := by rw [list_of htr, hb8, ← hM]; exact trim_fin ⟨L, bL⟩ hL0
    have trs : tr.size ≤ 8 := by rw [← size_list, htr2]; exact frac_len bL
    have HRP := Lib.hid hrp
    have HTR := Lib.hid htr
    have HC := Lib.hid (show C ≤ 8 by omega)
    have c8 : C ≤ 8 := by omega
    have m8 : md.size ≤ 8 := by omega
    have HF := Lib.hid (str_eq (show (sg ++ dd ++ ⟨#[46]⟩ ++ tr).data.toList = pr n by
      rw [HP.out, if_neg hL0, cat_list, cat_list, cat_list, htr2, List.append_assoc (sg.data.toList ++ dd.data.toList)]; rfl))
    clear hL hA hD hdd hd hd2 hn bA HP hL0 fd hM hmd ms hC hrp hb8 htr htr2
    cases neg with
    | true =>
      have hu := hu rfl
      clear hv
      rw [if_pos rfl] at hsg
      subst hsg
      go_enter Tryd.func18, Tryd.ntmps18
      go_wp2_with fail
      refine (fmtU_any D _ HQ2.out hT).mono ?_
      rintro e w1 ⟨rfl, h1⟩
      rw [HD.out]
      go_wp2_with fail
      refine (fmtU_any M _ HM2.out (hT.step h1)).mono ?_
      rintro e w2 ⟨rfl, h2⟩
      rw [HMD.out]
      have h2 := h1.trans (h2.mono h1.size)
      clear h1
      go_wp2_with fail
      refine (Tryd.strings_Repeat ⟨#[48]⟩ C _ (by omega) (by show 1 * C ≤ _; omega)).mono ?_
      rintro e w3 ⟨rfl, h3⟩
      rw [show (⟨#[48]⟩ : ByteArray).data.toList = [48] from rfl, ← HRP.out]
      have h3 := h2.trans (h3.mono h2.size)
      clear h2
      go_wp2_with fail
      refine (Tryd.strings_TrimRight_one (rp ++ md) 48 (by decide) _ (by rw [ByteArray.size_append]; omega)).mono ?_
      rintro e w4 ⟨rfl, rfl⟩
      rw [← HTR.out]
      go_wp2
      go_ret
      exact ⟨by rw [← HF.out]; rfl, h3⟩
    | false =>
      have hv := hv rfl
      clear hu
      rw [if_neg (by simp)] at hsg
      subst hsg
      go_enter Tryd.func18, Tryd.ntmps18
      go_wp2_with fail
      refine (fmtU_any D _ HQ2.out hT).mono ?_
      rintro e w1 ⟨rfl, h1⟩
      rw [HD.out]
      go_wp2_with fail
      refine (fmtU_any M _ HM2.out (hT.step h1)).mono ?_
      rintro e w2 ⟨rfl, h2⟩
      rw [HMD.out]
      have h2 := h1.trans (h2.mono h1.size)
      clear h1
      go_wp2_with fail
      refine (Tryd.strings_Repeat ⟨#[48]⟩ C _ (by omega) (by show 1 * C ≤ _; omega)).mono ?_
      rintro e w3 ⟨rfl, h3⟩
      rw [show (⟨#[48]⟩ : ByteArray).data.toList = [48] from rfl, ← HRP.out]
      have h3 := h2.trans (h3.mono h2.size)
      clear h2
      go_wp2_with fail
      refine (Tryd.strings_TrimRight_one (rp ++ md) 48 (by decide) _ (by rw [ByteArray.size_append]; omega)).mono ?_
      rintro e w4 ⟨rfl, rfl⟩
      rw [← HTR.out]
      go_wp2
      go_ret
      exact ⟨by rw [← HF.out]; rfl, h3⟩
theorem print_any (n : Int) (w : World) (hn : -9223372036854775808 ≤ n ∧ n ≤ 9223372036854775807) (hT : Tab w) :
    Calls Tryd.prog 18 #[.int .i64 n] w fun e w' => e = .returned (S (pr n)) ∧ Below w.heap.size w w' :=
  print_at n _ _ w hn rfl hT _ _ rfl rfl _ rfl rfl
end Go.Proofs.YtjjklchfcklahaaDoor
