/- The walk of ScriptBlanks: blanks of any kind, between words, ahead and behind. -/
import Derived.Test.YtjjklchfcklahaaDoorShown8
import Derived.Test.YtjjklchfcklahaaDoorScriptPt
import Derived.Test.YtjjklchfcklahaaDoorRef7D
namespace Go.Proofs.YtjjklchfcklahaaDoor
open Go.RowKit
set_option linter.unusedVariables false
set_option linter.unusedSimpArgs false
set_option maxHeartbeats 4000000
set_option maxRecDepth 100000

theorem walk_ScriptBlanks (s : ByteArray) (A : Option Addr) (cap : Nat) (bs : List UInt8) (w : World) (hT : Tabs8 w) (hr : Vals w w.heap.size A (bs.map bV)) (hl : bs.length ≤ 9223372036854775807) (hs : s.size ≤ 1048576) :
    Calls Tryd.prog 5 #[.string s, .slice A bs.length cap] w fun e w' => e = .returned (.bool true) ∧ Below w.heap.size w w' := by
  have HTB := Lib.hid (fun (x : World) (hb : Below w.heap.size w x) => hT.step hb)
  clear hT
  have HR := Lib.hid hr
  obtain ⟨M, hM⟩ : ∃ M, bs.length = M := ⟨_, rfl⟩
  rw [hM] at hl ⊢
  have HM := Lib.hid hM
  obtain ⟨l, hll⟩ : ∃ l, s.data.toList = l := ⟨_, rfl⟩
  have HS := Lib.hid hll
  have hsl : l.length = s.size := by rw [← hll, size_list]
  have HL := Lib.hid hsl
  obtain ⟨z, hz⟩ : ∃ z, parseR l = z := ⟨_, rfl⟩
  obtain ⟨⟨zv, zp⟩, zi, ze⟩ := z
  obtain ⟨a, ha⟩ : ∃ a, zv.length = a := ⟨_, rfl⟩
  obtain ⟨b, hb⟩ : ∃ b, zp.length = b := ⟨_, rfl⟩
  have hab : a ≤ 2000 ∧ b ≤ 2000 := by
    have := parse_lens hz
    omega
  have PP := Lib.hid (show ∀ w, Tabs8 w → Calls Tryd.prog 12 #[.string s] w fun e w' => ∃ A B c d, e = .returned (.tuple #[PathA A a c B b d, .int .i64 (zi : Nat), .int .i64 ze]) ∧ Vals w' w'.heap.size A (zv.map iV) ∧ Cor w' w'.heap.size B zp ∧ b ≤ d ∧ Below w.heap.size w w' from fun w hT => by
    have := sparse_any s l w hT hll (by omega)
    rw [hz] at this
    unfold Parsed at this
    dsimp only at this
    rw [ha, hb] at this
    exact this)
  have PQ := Lib.hid (show ze = 0 → ∀ (u : ByteArray), u.data.toList = [32, 44] ++ weave l bs ++ [10, 44] → ∀ w, u.size ≤ 1000 → Tabs8 w → Calls Tryd.prog 12 #[.string u] w fun e w' => ∃ A B c d, e = .returned (.tuple #[PathA A a c B b d, .int .i64 0, .int .i64 0]) ∧ Vals w' w'.heap.size A (zv.map iV) ∧ Cor w' w'.heap.size B zp ∧ b ≤ d ∧ Below w.heap.size w w' from fun h0 u hu w hz1 hT => by
    subst h0
    have := sparse_any u _ w hT hu (by rw [← hu, size_list]; omega)
    rw [blanks_same hz] at this
    unfold Parsed at this
    dsimp only at this
    rw [ha, hb] at this
    exact this)
  have SM := Lib.hid (show ∀ A B A' B' c d c' d' w, Vals w w.heap.size A (zv.map iV) → Cor w w.heap.size B zp → Vals w w.heap.size A' (zv.map iV) → Cor w w.heap.size B' zp → Calls Tryd.prog 14 #[PathA A a c B b d, PathA A' a c' B' b d'] w fun e w' => e = .returned (.bool true) ∧ Below w.heap.size w w' from fun A B A' B' c d c' d' w g1 g2 g3 g4 => by
    have := r7same_any A B A' B' c d c' d' zv zv zp zp w g1 g2 g3 g4 (by omega) (by omega)
    rw [ha, hb, decide_eq_true (show zv = zv ∧ zp = zp from ⟨rfl, rfl⟩)] at this
    exact this)
  clear hr hM hll hsl hz ha hb
  go_enter Tryd.func5, Tryd.ntmps5
  go_wp2_with fail
  refine (PP.out _ (HTB.out _ (by first | exact hb | exact hb8 | exact hb7 | exact hb6 | exact hbc | exact hbW | exact h6 | exact h6.alloc h6.size _ | exact Below.refl _ _ | exact (Below.refl _ _).alloc (Nat.le_refl _) _ | exact hb7.alloc hb7.size _ | exact hb6.alloc hb6.size _ | exact hb2.trans (hbW.mono hb2.size) | exact hb.alloc hb.size _ | exact hb2.trans (h6.mono hb2.size)))).mono ?_
  rintro e w6 ⟨A6, B6, c6, d6, rfl, hV6, hC6, -, h6⟩
  by_cases h1 : 200 < s.size
  · have qa : decide ((200 : Int) < (s.size : Int)) = true := by simp; omega
    have qb : decide (200 < s.size) = true := by simp; omega
    have z6 := h6.size
    clear hV6 hC6
    go_wp2_with fail
    refine (shown8_any _ (HTB.out _ (by first | exact hb | exact hb8 | exact hb7 | exact hb6 | exact hbc | exact hbW | exact h6 | exact h6.alloc h6.size _ | exact Below.refl _ _ | exact (Below.refl _ _).alloc (Nat.le_refl _) _ | exact hb7.alloc hb7.size _ | exact hb6.alloc hb6.size _ | exact hb2.trans (hbW.mono hb2.size) | exact hb.alloc hb.size _ | exact hb2.trans (h6.mono hb2.size)))).mono ?_
    rintro e w2 ⟨rfl, h2⟩
    go_wp2
    go_ret
    exact ⟨rfl, (h6.alloc z6 _).trans (h2.mono (by simp; omega))⟩
  have qa : decide ((200 : Int) < (s.size : Int)) = false := by simp; omega
  have qb : decide (200 < s.size) = false := by simp; omega
  by_cases h0 : ze = 0
  rotate_left
  · have q1 : (ze == 0) = false := by simpa using h0
    have q2 : (ze != 0) = true := by simpa using h0
    have z6 := h6.size
    clear hV6 hC6
    go_wp2_with fail
    refine (shown8_any _ (HTB.out _ (by first | exact hb | exact hb8 | exact hb7 | exact hb6 | exact hbc | exact hbW | exact h6 | exact h6.alloc h6.size _ | exact Below.refl _ _ | exact (Below.refl _ _).alloc (Nat.le_refl _) _ | exact hb7.alloc hb7.size _ | exact hb6.alloc hb6.size _ | exact hb2.trans (hbW.mono hb2.size) | exact hb.alloc hb.size _ | exact hb2.trans (h6.mono hb2.size)))).mono ?_
    rintro e w2 ⟨rfl, h2⟩
    go_wp2
    go_ret
    exact ⟨rfl, (h6.alloc z6 _).trans (h2.mono (by simp; omega))⟩
  have PQ0 := Lib.hid (PQ.out h0)
  subst h0
  have z6 := h6.size
  have BA : ∀ o, Below w6.heap.size w6 (w6.alloc o) := fun o => (Below.refl _ _).alloc (Nat.le_refl _) o
  go_wp2_with fail
  refine (shown8_any _ (HTB.out _ (by first | exact hb | exact hb8 | exact hb7 | exact hb6 | exact hbc | exact hbW | exact h6 | exact h6.alloc h6.size _ | exact Below.refl _ _ | exact (Below.refl _ _).alloc (Nat.le_refl _) _ | exact hb7.alloc hb7.size _ | exact hb6.alloc hb6.size _ | exact hb2.trans (hbW.mono hb2.size) | exact hb.alloc hb.size _ | exact hb2.trans (h6.mono hb2.size)))).mono ?_
  rintro e w2 ⟨rfl, h2⟩
  have z2 := h2.size
  simp at z2
  have m0 : w2.cell? ⟨w6.heap.size, 0, none⟩ = some (.slice A6 a c6) := (h2.cell (p := ⟨w6.heap.size, 0, none⟩) (by simp)).trans (by first | simp | simp [go_sem])
  have m1 : w2.cell? ⟨w6.heap.size, 1, none⟩ = some (.slice B6 b d6) := (h2.cell (p := ⟨w6.heap.size, 1, none⟩) (by simp)).trans (by first | simp | simp [go_sem])
  have HV2 := Lib.hid ((hV6.calls (BA _)).calls h2)
  have HC2 := Lib.hid ((hC6.calls (BA _)).calls h2)
  have hb2 := (h6.trans ((BA _).mono z6)).trans (h2.mono (by simp; omega))
  clear hV6 hC6 h6 h2 BA PP PQ
  clear z6
  go_wp2
  go_loopw [8, 9, 10] (fun s8 s9 s10 wr => ∃ (c : ByteArray) (m k : Nat), s8 = .string c ∧ s9 = .int .i64 m ∧ s10 = .int .i64 k ∧ k ≤ s.size ∧ m = min ((l.take k).count 32) M ∧ c.data.toList = [32, 44] ++ weave (l.take k) bs ∧ Below w2.heap.size w2 wr) (fun _ _ s10 _ => s.size - (intOf s10).toNat)
  case atStart => exact ⟨⟨#[32, 44]⟩, 0, 0, rfl, rfl, rfl, Nat.zero_le _, by simp, by simp [weave], Below.refl _ _⟩
  case round =>
    obtain ⟨c, m, k, rfl, rfl, rfl, hk, hm, hc, hbW⟩ := hrel
    have hcs : c.size ≤ 2 + 3 * k := by
      have h1 := weave_len (l.take k) bs
      have h2 : (l.take k).length ≤ k := by rw [List.length_take]; omega
      rw [← size_list, hc, List.length_append]
      simp only [List.length_cons, List.length_nil]
      omega
    have HC := Lib.hid hc
    have hzW := hbW.size
    by_cases hlt : k < s.size
    · obtain ⟨x, hx⟩ : ∃ x, s[k] = x := ⟨_, rfl⟩
      have hxl : l[k]? = some x := by rw [← HS.out, byte_at s k hlt, hx]
      have HT := Lib.hid (show l.take (k + 1) = l.take k ++ [x] by rw [List.take_add_one, hxl]; rfl)
      obtain ⟨q, hq⟩ : ∃ q, (l.take k).count 32 = q := ⟨_, rfl⟩
      rw [hq] at hm
      have HQ := Lib.hid hq
      obtain ⟨t, ht⟩ : ∃ t, s.extract k (k + 1) = t := ⟨_, rfl⟩
      have HE := Lib.hid (show t.data.toList = [x] by
        rw [← ht, extract_at, HS.out, show k + 1 - k = 1 by omega]
        rw [List.take_one, List.head?_drop, hxl]; rfl)
      have hts : t.size = 1 := by rw [← size_list, HE.out]; rfl
      have A1 : ∀ w : World, (Op.stringOp .add c t).run Tryd.prog w = .ok (.string (c ++ t)) w := fun w => run_string_add_sum w _ _ (by omega)
      have hct : (c ++ t).size = c.size + 1 := by rw [ByteArray.size_append, hts]
      have q2 : decide ((k : Int) < (s.size : Int)) = true := by simp; omega
      have q3 : decide (k < s.size) = true := by simp; omega
      have q5 : IntKind.i64.wrap ((k : Int) + 1) = (k : Int) + 1 := IntWalk.i64_in _ (by omega)
      have q6 : (0 : Int) ≤ (k : Int) := by omega
      have q7 : (k : Int) ≤ (k : Int) + 1 := by omega
      have q8 : (k : Int) + 1 ≤ (s.size : Int) := by omega
      have q9 : ((k : Int) + 1).toNat = k + 1 := by omega
      clear hc hq hxl
      by_cases hx32 : x = 32
      · have u1 : ((x.toNat : Int) == 32) = true := by rw [hx32]; rfl
        have u2 : (x.toNat == 32) = true := by rw [hx32]; rfl
        by_cases hmM : m < M
        · have hmq : m = q := by omega
          obtain ⟨y, hy⟩ : ∃ y, bs[m]? = some y := ⟨_, List.getElem?_eq_getElem (by rw [HM.out]; exact hmM)⟩
          obtain ⟨ad, rfl, hB, c1⟩ := (HR.out.step (hb2.trans (hbW.mono hb2.size))).at_ (u := bV y) (show (bs.map bV)[m]? = some (bV y) by rw [List.getElem?_map, hy]; rfl)
          unfold bV at c1
          have HF := Lib.hid (show weave (l.take (k + 1)) bs = weave (l.take k) bs ++ 32 :: blk y by rw [HT.out, hx32]; exact weave_blank _ _ _ (by rw [HQ.out, ← hmq]; exact hy))
          have HN := Lib.hid (show m + 1 = min ((l.take (k + 1)).count 32) M by rw [HT.out, List.count_append, HQ.out, hx32, show List.count (32 : UInt8) [32] = 1 from rfl]; omega)
          have v1 : decide ((m : Int) < (M : Int)) = true := by simp; omega
          have v2 : decide (m < M) = true := by simp; omega
          have v3 : IntKind.i64.wrap ((m : Int) + 1) = (m : Int) + 1 := IntWalk.i64_in _ (by omega)
          have v4 : (m : Int) < (M : Int) := by omega
          have v5 : (0 : Int) ≤ (m : Int) := by omega
          have hz0 := hb2.size
          have c2 : ∀ o, (wr.alloc o).cell? (ad.add m) = some (.int .u8 (y.toNat : Int)) := fun o => (World.cell?_alloc_old _ _ _ (by rw [block_add]; omega)).trans c1
          clear hy hm hmq
          have hy5 : y.toNat % 5 = 0 ∨ y.toNat % 5 = 1 ∨ y.toNat % 5 = 2 ∨ y.toNat % 5 = 3 ∨ y.toNat % 5 = 4 := by omega
          rcases hy5 with hy5 | hy5 | hy5 | hy5 | hy5
          · have r1 : ((y.toNat : Int)).tmod 5 = 0 := by rw [Int.tmod_eq_emod_of_nonneg (by omega)]; omega
            have r2 : blk y = [9] := by
              have : (y % 5).toNat = 0 := by rw [UInt8.toNat_mod]; exact hy5
              have e5 : y % 5 = 0 := UInt8.toNat_inj.1 this
              unfold blk; rw [e5]; rfl
            have A2 : ∀ w : World, (Op.stringOp .add (c ++ t) (⟨#[9]⟩ : ByteArray)).run Tryd.prog w = .ok (.string (c ++ t ++ (⟨#[9]⟩ : ByteArray))) w := fun w => run_string_add_sum w _ _ (by rw [hct, show (⟨#[9]⟩ : ByteArray).size = 1 from rfl]; omega)
            have H1 := Lib.hid (show (c ++ t ++ (⟨#[9]⟩ : ByteArray)).data.toList = [32, 44] ++ weave (l.take (k + 1)) bs by rw [cat_list, cat_list, HC.out, HE.out, HF.out, r2, hx32]; simp)
            clear r2
            go_wp2
            go_roundw
            case rel => exact ⟨_, m + 1, k + 1, rfl, by go_num, by go_num, by omega, HN.out, H1.out, hbW.alloc hzW _⟩
            case measure => (simp [intOf]; try omega)
          · have r1 : ((y.toNat : Int)).tmod 5 = 1 := by rw [Int.tmod_eq_emod_of_nonneg (by omega)]; omega
            have r2 : blk y = [10, 32] := by
              have : (y % 5).toNat = 1 := by rw [UInt8.toNat_mod]; exact hy5
              have e5 : y % 5 = 1 := UInt8.toNat_inj.1 this
              unfold blk; rw [e5]; rfl
            have A2 : ∀ w : World, (Op.stringOp .add (c ++ t) (⟨#[10, 32]⟩ : ByteArray)).run Tryd.prog w = .ok (.string (c ++ t ++ (⟨#[10, 32]⟩ : ByteArray))) w := fun w => run_string_add_sum w _ _ (by rw [hct, show (⟨#[10, 32]⟩ : ByteArray).size = 2 from rfl]; omega)
            have H1 := Lib.hid (show (c ++ t ++ (⟨#[10, 32]⟩ : ByteArray)).data.toList = [32, 44] ++ weave (l.take (k + 1)) bs by rw [cat_list, cat_list, HC.out, HE.out, HF.out, r2, hx32]; simp)
            clear r2
            go_wp2
            go_roundw
            case rel => exact ⟨_, m + 1, k + 1, rfl, by go_num, by go_num, by omega, HN.out, H1.out, hbW.alloc hzW _⟩
            case measure => (simp [intOf]; try omega)
          · have r1 : ((y.toNat : Int)).tmod 5 = 2 := by rw [Int.tmod_eq_emod_of_nonneg (by omega)]; omega
            have r2 : blk y = [44] := by
              have : (y % 5).toNat = 2 := by rw [UInt8.toNat_mod]; exact hy5
              have e5 : y % 5 = 2 := UInt8.toNat_inj.1 this
              unfold blk; rw [e5]; rfl
            have A2 : ∀ w : World, (Op.stringOp .add (c ++ t) (⟨#[44]⟩ : ByteArray)).run Tryd.prog w = .ok (.string (c ++ t ++ (⟨#[44]⟩ : ByteArray))) w := fun w => run_string_add_sum w _ _ (by rw [hct, show (⟨#[44]⟩ : ByteArray).size = 1 from rfl]; omega)
            have H1 := Lib.hid (show (c ++ t ++ (⟨#[44]⟩ : ByteArray)).data.toList = [32, 44] ++ weave (l.take (k + 1)) bs by rw [cat_list, cat_list, HC.out, HE.out, HF.out, r2, hx32]; simp)
            clear r2
            go_wp2
            go_roundw
            case rel => exact ⟨_, m + 1, k + 1, rfl, by go_num, by go_num, by omega, HN.out, H1.out, hbW.alloc hzW _⟩
            case measure => (simp [intOf]; try omega)
          · have r1 : ((y.toNat : Int)).tmod 5 = 3 := by rw [Int.tmod_eq_emod_of_nonneg (by omega)]; omega
            have r2 : blk y = [13, 10] := by
              have : (y % 5).toNat = 3 := by rw [UInt8.toNat_mod]; exact hy5
              have e5 : y % 5 = 3 := UInt8.toNat_inj.1 this
              unfold blk; rw [e5]; rfl
            have A2 : ∀ w : World, (Op.stringOp .add (c ++ t) (⟨#[13, 10]⟩ : ByteArray)).run Tryd.prog w = .ok (.string (c ++ t ++ (⟨#[13, 10]⟩ : ByteArray))) w := fun w => run_string_add_sum w _ _ (by rw [hct, show (⟨#[13, 10]⟩ : ByteArray).size = 2 from rfl]; omega)
            have H1 := Lib.hid (show (c ++ t ++ (⟨#[13, 10]⟩ : ByteArray)).data.toList = [32, 44] ++ weave (l.take (k + 1)) bs by rw [cat_list, cat_list, HC.out, HE.out, HF.out, r2, hx32]; simp)
            clear r2
            go_wp2
            go_roundw
            case rel => exact ⟨_, m + 1, k + 1, rfl, by go_num, by go_num, by omega, HN.out, H1.out, hbW.alloc hzW _⟩
            case measure => (simp [intOf]; try omega)
          · have r1 : ((y.toNat : Int)).tmod 5 = 4 := by rw [Int.tmod_eq_emod_of_nonneg (by omega)]; omega
            have r2 : blk y = [32, 32] := by
              have : (y % 5).toNat = 4 := by rw [UInt8.toNat_mod]; exact hy5
              have e5 : y % 5 = 4 := UInt8.toNat_inj.1 this
              unfold blk; rw [e5]; rfl
            have A2 : ∀ w : World, (Op.stringOp .add (c ++ t) (⟨#[32, 32]⟩ : ByteArray)).run Tryd.prog w = .ok (.string (c ++ t ++ (⟨#[32, 32]⟩ : ByteArray))) w := fun w => run_string_add_sum w _ _ (by rw [hct, show (⟨#[32, 32]⟩ : ByteArray).size = 2 from rfl]; omega)
            have H1 := Lib.hid (show (c ++ t ++ (⟨#[32, 32]⟩ : ByteArray)).data.toList = [32, 44] ++ weave (l.take (k + 1)) bs by rw [cat_list, cat_list, HC.out, HE.out, HF.out, r2, hx32]; simp)
            clear r2
            go_wp2
            go_roundw
            case rel => exact ⟨_, m + 1, k + 1, rfl, by go_num, by go_num, by omega, HN.out, H1.out, hbW.alloc hzW _⟩
            case measure => (simp [intOf]; try omega)
        · have HF := Lib.hid (show weave (l.take (k + 1)) bs = weave (l.take k) bs ++ [x] by rw [HT.out]; exact weave_plain _ _ _ (.inr (by rw [HM.out, HQ.out]; omega)))
          have HN := Lib.hid (show m = min ((l.take (k + 1)).count 32) M by rw [HT.out, List.count_append, HQ.out]; omega)
          have v1 : decide ((m : Int) < (M : Int)) = false := by simp; omega
          have v2 : decide (m < M) = false := by simp; omega
          have H1 := Lib.hid (show (c ++ t).data.toList = [32, 44] ++ weave (l.take (k + 1)) bs by rw [cat_list, HC.out, HE.out, HF.out]; simp)
          clear hm
          go_wp2
          go_roundw
          case rel => exact ⟨_, m, k + 1, rfl, rfl, by go_num, by omega, HN.out, H1.out, hbW⟩
          case measure => (simp [intOf]; try omega)
      · have u1 : ((x.toNat : Int) == 32) = false := by
          have : x.toNat ≠ 32 := fun h => hx32 (UInt8.toNat_inj.1 h)
          simp; omega
        have u2 : (x.toNat == 32) = false := by
          have : x.toNat ≠ 32 := fun h => hx32 (UInt8.toNat_inj.1 h)
          simpa using this
        have HF := Lib.hid (show weave (l.take (k + 1)) bs = weave (l.take k) bs ++ [x] by rw [HT.out]; exact weave_plain _ _ _ (.inl hx32))
        have HN := Lib.hid (show m = min ((l.take (k + 1)).count 32) M by rw [HT.out, List.count_append, HQ.out, List.count_singleton, beq_false_of_ne hx32]; simpa using hm)
        have H1 := Lib.hid (show (c ++ t).data.toList = [32, 44] ++ weave (l.take (k + 1)) bs by rw [cat_list, HC.out, HE.out, HF.out]; simp)
        clear hm
        go_wp2
        go_roundw
        case rel => exact ⟨_, m, k + 1, rfl, rfl, by go_num, by omega, HN.out, H1.out, hbW⟩
        case measure => (simp [intOf]; try omega)
    · have hkS : k = s.size := by omega
      rw [hkS, show l.take s.size = l by rw [← HL.out, List.take_length]] at hc
      have q2 : decide ((k : Int) < (s.size : Int)) = false := by simp; omega
      have q3 : decide (k < s.size) = false := by simp; omega
      have A1 : ∀ w : World, (Op.stringOp .add c (⟨#[10, 44]⟩ : ByteArray)).run Tryd.prog w = .ok (.string (c ++ (⟨#[10, 44]⟩ : ByteArray))) w := fun w => run_string_add_sum w _ _ (by rw [show (⟨#[10, 44]⟩ : ByteArray).size = 2 from rfl]; omega)
      have RP := Lib.hid (PQ0.out (c ++ (⟨#[10, 44]⟩ : ByteArray)) (by rw [cat_list, hc]))
      have hus : (c ++ (⟨#[10, 44]⟩ : ByteArray)).size ≤ 1000 := by rw [ByteArray.size_append, show (⟨#[10, 44]⟩ : ByteArray).size = 2 from rfl]; omega
      clear hc HC hm PQ0
      go_wp2_with fail
      refine (RP.out _ hus (HTB.out _ (by first | exact hb | exact hb8 | exact hb7 | exact hb6 | exact hbc | exact hbW | exact h6 | exact h6.alloc h6.size _ | exact Below.refl _ _ | exact (Below.refl _ _).alloc (Nat.le_refl _) _ | exact hb7.alloc hb7.size _ | exact hb6.alloc hb6.size _ | exact hb2.trans (hbW.mono hb2.size) | exact hb.alloc hb.size _ | exact hb2.trans (h6.mono hb2.size)))).mono ?_
      rintro e w7 ⟨A7, B7, c7, d7, rfl, hV7, hC7, -, h7⟩
      go_upto_region 14 with fail
      have z7 := h7.size
      have hz0 := hb2.size
      have HB1 := Lib.hid (hbW.trans (h7.mono hzW))
      have BA : ∀ o, Below w7.heap.size w7 (w7.alloc o) := fun o => (Below.refl _ _).alloc (Nat.le_refl _) o
      refine any_gen (fun z => ((z.cell? ⟨w6.heap.size, 0, none⟩ = some (.slice A6 a c6) ∧ z.cell? ⟨w6.heap.size, 1, none⟩ = some (.slice B6 b d6)) ∧ (z.cell? ⟨w7.heap.size, 0, none⟩ = some (.slice A7 a c7) ∧ z.cell? ⟨w7.heap.size, 1, none⟩ = some (.slice B7 b d7))) ∧ (Vals z z.heap.size A6 (zv.map iV) ∧ Cor z z.heap.size B6 zp ∧ Vals z z.heap.size A7 (zv.map iV) ∧ Cor z z.heap.size B7 zp) ∧ (w6.heap.size < z.heap.size ∧ w7.heap.size < z.heap.size) ∧ Below w.heap.size w z)
        ⟨⟨⟨((HB1.out.trans ((BA _).mono (Nat.le_trans hzW z7))).cell (p := ⟨w6.heap.size, 0, none⟩) (by dsimp only; omega)).trans m0, ((HB1.out.trans ((BA _).mono (Nat.le_trans hzW z7))).cell (p := ⟨w6.heap.size, 1, none⟩) (by dsimp only; omega)).trans m1⟩, by first | simp | simp [go_sem], by first | simp | simp [go_sem]⟩, ⟨(HV2.out.calls HB1.out).calls (BA _), (HC2.out.calls HB1.out).calls (BA _), hV7.calls (BA _), hC7.calls (BA _)⟩, ⟨by simp; omega, by simp⟩, (hb2.trans (HB1.out.mono hz0)).alloc (by omega) _⟩ ?_
      clear hV7 hC7 h7 HB1 m0 m1 BA hb2 hbW HV2 HC2
      rintro w8 ⟨⟨⟨k0, k1⟩, k2, k3⟩, ⟨hV6, hC6, hV7, hC7⟩, ⟨s6, s7⟩, hb8⟩
      have HV6 := Lib.hid hV6
      have HC6 := Lib.hid hC6
      have HV7 := Lib.hid hV7
      have HC7 := Lib.hid hC7
      clear hV6 hC6 hV7 hC7
      obtain ⟨g6, hg6⟩ : ∃ g, w6.heap.size = g := ⟨_, rfl⟩
      rw [hg6] at k0 k1 s6 ⊢
      clear hg6 z2
      obtain ⟨g7, hg7⟩ : ∃ g, w7.heap.size = g := ⟨_, rfl⟩
      rw [hg7] at k2 k3 s7 ⊢
      clear hg7 z7
      go_region_held3 (fun w' => w'.cell? ⟨g6, 0, none⟩ = some (.slice A6 a c6) ∧ w'.cell? ⟨g6, 1, none⟩ = some (.slice B6 b d6) ∧ w'.cell? ⟨g7, 0, none⟩ = some (.slice A7 a c7) ∧ w'.cell? ⟨g7, 1, none⟩ = some (.slice B7 b d7) ∧ Below w8.heap.size w8 w') ((first | assumption | exact ⟨by simp [*], by simp [*], by simp [*], by simp [*], (Below.refl _ _).drew⟩ | exact keep4 ‹_› hb (by (try dsimp only); omega) (by (try dsimp only); omega) (by (try dsimp only); omega) (by (try dsimp only); omega) | exact keepA4 ‹_› _ (by (try dsimp only); omega) (by (try dsimp only); omega) (by (try dsimp only); omega) (by (try dsimp only); omega))) ((first | (go_at_call 11; (with_reducible refine (its8_any _ _ _ _ _ _ _).mono ?_); rintro e w' ⟨rfl, hb⟩) | (go_at_call 14; (with_reducible refine (SM.out A6 B6 A7 B7 c6 d6 c7 d7 _ (HV6.out.calls (by exact belK4 (by assumption))) (HC6.out.calls (by exact belK4 (by assumption))) (HV7.out.calls (by exact belK4 (by assumption))) (HC7.out.calls (by exact belK4 (by assumption)))).mono ?_); rintro e w' ⟨rfl, hb⟩)))
      all_goals
        have hF := belK4 ‹_ ∧ _ ∧ _ ∧ _ ∧ Below w8.heap.size w8 _›
        go_wp2
        go_ret
        exact ⟨rfl, hb8.trans (hF.mono hb8.size)⟩
end Go.Proofs.YtjjklchfcklahaaDoor
