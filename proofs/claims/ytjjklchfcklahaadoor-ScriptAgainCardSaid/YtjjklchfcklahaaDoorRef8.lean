/- Texts of paths, the document's own: blanks, words, letters. -/
import Derived.Test.YtjjklchfcklahaaDoorRef3E
import Derived.Test.YtjjklchfcklahaaDoorScriptPt
import Derived.Deep.CutBlock
namespace Go.Proofs.YtjjklchfcklahaaDoor
open Go.RowKit
set_option linter.unusedVariables false
set_option linter.unusedSimpArgs false
set_option maxHeartbeats 4000000
set_option maxRecDepth 100000

theorem extract_at (s : ByteArray) (a b : Nat) : (s.extract a b).data.toList = (s.data.toList.drop a).take (b - a) := by
  rw [ByteArray.data_extract, Array.toList_extract]
  first | done | rfl
theorem byte_at (s : ByteArray) (k : Nat) (h : k < s.size) : s.data.toList[k]? = some s[k] := by
  rw [List.getElem?_eq_getElem (by rw [Array.length_toList]; exact h)]
  first | done | rfl

theorem r8blank_any (c : UInt8) (w : World) :
    Calls Tryd.prog 44 #[.int .u8 c.toNat] w fun e w' => e = .returned (.bool (blankB c)) ∧ w = w' := by
  obtain ⟨n, hn⟩ : ∃ n : Nat, c.toNat = n := ⟨_, rfl⟩
  have e : ∀ k : UInt8, (c == k) = ((n : Int) == (k.toNat : Int)) := fun k => by
    rw [Bool.eq_iff_iff, beq_iff_eq, beq_iff_eq, ← hn]
    exact ⟨fun h => by rw [h], fun h => UInt8.toNat_inj.1 (by omega)⟩
  have F := Lib.hid (show blankB c = ((n : Int) == 9 || (n : Int) == 10 || (n : Int) == 13 || (n : Int) == 32 || (n : Int) == 44) by
    unfold blankB; rw [e 9, e 10, e 13, e 32, e 44]; rfl)
  rw [hn, F.out]
  clear F e hn
  by_cases h1 : n = 9
  · subst h1
    go_enter Tryd.func44, Tryd.ntmps44
    go_wp2
    go_ret
    exact ⟨rfl, rfl⟩
  · have q1 : ((n : Int) == 9) = false := by simp; omega
    by_cases h2 : n = 10
    · subst h2
      clear q1 h1
      go_enter Tryd.func44, Tryd.ntmps44
      go_wp2
      go_ret
      exact ⟨rfl, rfl⟩
    · have q2 : ((n : Int) == 10) = false := by simp; omega
      by_cases h3 : n = 13
      · subst h3
        clear q1 q2 h1 h2
        go_enter Tryd.func44, Tryd.ntmps44
        go_wp2
        go_ret
        exact ⟨rfl, rfl⟩
      · have q3 : ((n : Int) == 13) = false := by simp; omega
        by_cases h4 : n = 32
        · subst h4
          clear q1 q2 q3 h1 h2 h3
          go_enter Tryd.func44, Tryd.ntmps44
          go_wp2
          go_ret
          exact ⟨rfl, rfl⟩
        · have q4 : ((n : Int) == 32) = false := by simp; omega
          clear h1 h2 h3 h4
          go_enter Tryd.func44, Tryd.ntmps44
          go_wp2
          go_ret
          exact ⟨by rw [q1, q2, q3, q4]; simp, rfl⟩

/-! ## Words -/
/-- The word that begins at a place, or behind blanks; and its place. -/
theorem restB_drop (l : List UInt8) (k : Nat) {c : UInt8} (h : l[k]? = some c) : restB (l.drop k) = if blankB c then restB (l.drop (k + 1)) else l.drop k := by
  obtain ⟨hk, e⟩ := List.getElem?_eq_some_iff.1 h
  rw [List.drop_eq_getElem_cons hk, e]
  cases hb : blankB c with
  | true => exact restB_cons hb _
  | false => exact restB_stop hb _
theorem wordW_drop (l : List UInt8) (k : Nat) {c : UInt8} (h : l[k]? = some c) : wordW (l.drop k) = if blankB c then [] else c :: wordW (l.drop (k + 1)) := by
  obtain ⟨hk, e⟩ := List.getElem?_eq_some_iff.1 h
  rw [List.drop_eq_getElem_cons hk, e]
  unfold wordW
  rw [List.takeWhile_cons]
  cases blankB c <;> rfl
theorem wordW_nil (l : List UInt8) (k : Nat) (h : l.length ≤ k) : wordW (l.drop k) = [] := by rw [List.drop_of_length_le h]; rfl
theorem r8word_any (s : ByteArray) (l : List UInt8) (k : Nat) (w : World) (hs : s.data.toList = l) (hl : l.length ≤ 4611686018427387904) (hk : k ≤ l.length) :
    Calls Tryd.prog 24 #[.string s, .int .i64 k] w fun e w' => ∃ t : ByteArray, ∃ b : Nat, e = .returned (.tuple #[.string t, .int .i64 b]) ∧ (t.data.toList = wordW (restB (l.drop k)) ∧ k ≤ b ∧ b ≤ l.length ∧ l.drop b = restB (l.drop k)) ∧ w = w' := by
  have hz : s.size = l.length := by rw [← hs, Array.length_toList]; rfl
  have HS := Lib.hid hs
  have HZ := Lib.hid hz
  rw [← hz] at hl hk
  clear hs hz
  go_enter Tryd.func24, Tryd.ntmps24
  go_upto_block 0 with (fail)
  go_cut [1] (fun s1 wx => w = wx ∧ ∃ j : Nat, s1 = .int .i64 j ∧ k ≤ j ∧ j ≤ s.size ∧ l.drop j = restB (l.drop k))
  case first =>
    go_wp2_with fail
    go_loop [1] (fun s1 => ∃ j : Nat, s1 = .int .i64 j ∧ k ≤ j ∧ j ≤ s.size ∧ restB (l.drop j) = restB (l.drop k)) (fun s1 => s.size - (intOf s1).toNat)
    case atStart => exact ⟨k, rfl, Nat.le_refl _, hk, rfl⟩
    case round =>
      obtain ⟨j, rfl, hj, hjL, hr⟩ := hrel
      by_cases hlt : j < s.size
      · obtain ⟨c, hc⟩ : ∃ c, s[j] = c := ⟨_, rfl⟩
        have hcl : l[j]? = some c := by rw [← HS.out, byte_at s j hlt, hc]
        have HR := Lib.hid (restB_drop l j hcl)
        have HR0 := Lib.hid hr
        have q1 : decide ((j : Int) < (s.size : Int)) = true := by simp; omega
        have q2 : decide (j < s.size) = true := by simp; omega
        have q3 : IntKind.i64.wrap ((j : Int) + 1) = (j : Int) + 1 := IntWalk.i64_in _ (by omega)
        obtain ⟨b, hb⟩ : ∃ b, blankB c = b := ⟨_, rfl⟩
        have BL0 := fun w => r8blank_any c w
        simp only [hb] at BL0
        have BL := Lib.hid BL0
        have HB := Lib.hid hb
        clear BL0 hb hr hcl
        cases b
        · have HF := Lib.hid (show l.drop j = restB (l.drop k) by rw [← HR0.out, HR.out, HB.out]; rfl)
          go_wp2_with (go_at_call 44; refine (BL.out _).mono ?_; rintro e w' ⟨rfl, rfl⟩)
          go_meet
          exact ⟨rfl, j, rfl, hj, hjL, HF.out⟩
        · have HF := Lib.hid (show restB (l.drop (j + 1)) = restB (l.drop k) by rw [← HR0.out, HR.out, HB.out]; rfl)
          go_wp2_with (go_at_call 44; refine (BL.out _).mono ?_; rintro e w' ⟨rfl, rfl⟩)
          go_round
          case rel => exact ⟨j + 1, by go_num, by omega, by omega, HF.out⟩
          case measure => simp [intOf]; omega
      · have HF := Lib.hid (show l.drop j = restB (l.drop k) by
          rw [← hr, List.drop_of_length_le (by rw [← HZ.out]; omega)]; rfl)
        have q1 : decide ((j : Int) < (s.size : Int)) = false := by simp; omega
        have q2 : decide (j < s.size) = false := by simp; omega
        clear hr
        go_wp2_with fail
        go_meet
        exact ⟨rfl, j, rfl, hj, hjL, HF.out⟩
  case rest =>
    obtain ⟨rfl, j, rfl, hj, hjL, hr⟩ := hcut
    have HR0 := Lib.hid hr
    clear hr
    go_upto_block 2 with (fail)
    go_cut [6] (fun s6 wx => w = wx ∧ ∃ m : Nat, s6 = .int .i64 m ∧ j ≤ m ∧ m ≤ s.size ∧ (l.drop j).take (m - j) = wordW (l.drop j))
    case first =>
      go_wp2_with fail
      go_loop [6] (fun s6 => ∃ m : Nat, s6 = .int .i64 m ∧ j ≤ m ∧ m ≤ s.size ∧ wordW (l.drop j) = (l.drop j).take (m - j) ++ wordW (l.drop m)) (fun s6 => s.size - (intOf s6).toNat)
      case atStart => exact ⟨j, rfl, Nat.le_refl _, hjL, by simp⟩
      case round =>
        obtain ⟨m, rfl, hm, hmL, hr⟩ := hrel
        by_cases hlt : m < s.size
        · obtain ⟨c, hc⟩ : ∃ c, s[m] = c := ⟨_, rfl⟩
          have hcl : l[m]? = some c := by rw [← HS.out, byte_at s m hlt, hc]
          have HR := Lib.hid (wordW_drop l m hcl)
          have HT := Lib.hid (show (l.drop j).take (m + 1 - j) = (l.drop j).take (m - j) ++ [c] by
            rw [show m + 1 - j = (m - j) + 1 by omega, List.take_add_one, List.getElem?_drop, show j + (m - j) = m by omega, hcl]; rfl)
          have HR1 := Lib.hid hr
          have q1 : decide ((m : Int) < (s.size : Int)) = true := by simp; omega
          have q2 : decide (m < s.size) = true := by simp; omega
          have q3 : IntKind.i64.wrap ((m : Int) + 1) = (m : Int) + 1 := IntWalk.i64_in _ (by omega)
          obtain ⟨b, hb⟩ : ∃ b, blankB c = b := ⟨_, rfl⟩
          have BL0 := fun w => r8blank_any c w
          simp only [hb] at BL0
          have BL := Lib.hid BL0
          have HB := Lib.hid hb
          clear BL0 hb hr hcl
          cases b
          · have HF := Lib.hid (show wordW (l.drop j) = (l.drop j).take (m + 1 - j) ++ wordW (l.drop (m + 1)) by rw [HR1.out, HR.out, HB.out, HT.out]; simp)
            go_wp2_with (go_at_call 44; refine (BL.out _).mono ?_; rintro e w' ⟨rfl, rfl⟩)
            go_round
            case rel => exact ⟨m + 1, by go_num, by omega, by omega, HF.out⟩
            case measure => simp [intOf]; omega
          · have HF := Lib.hid (show (l.drop j).take (m - j) = wordW (l.drop j) by rw [HR1.out, HR.out, HB.out]; simp)
            go_wp2_with (go_at_call 44; refine (BL.out _).mono ?_; rintro e w' ⟨rfl, rfl⟩)
            go_meet
            exact ⟨rfl, m, rfl, hm, hmL, HF.out⟩
        · have HF := Lib.hid (show (l.drop j).take (m - j) = wordW (l.drop j) by rw [hr, wordW_nil l m (by rw [← HZ.out]; omega)]; simp)
          have q1 : decide ((m : Int) < (s.size : Int)) = false := by simp; omega
          have q2 : decide (m < s.size) = false := by simp; omega
          clear hr
          go_wp2_with fail
          go_meet
          exact ⟨rfl, m, rfl, hm, hmL, HF.out⟩
    case rest =>
      obtain ⟨rfl, m, rfl, hm, hmL, hr⟩ := hcut
      have HF := Lib.hid (show (s.extract j m).data.toList = wordW (restB (l.drop k)) ∧ k ≤ j ∧ j ≤ l.length ∧ l.drop j = restB (l.drop k) by
        rw [extract_at, HS.out, hr, HR0.out, ← HZ.out]; exact ⟨rfl, hj, hjL, rfl⟩)
      obtain ⟨t, ht⟩ : ∃ t, s.extract j m = t := ⟨_, rfl⟩
      rw [ht] at HF
      clear hr
      go_wp2
      go_ret2
      exact ⟨t, j, rfl, HF.out, rfl⟩

/-! ## Letters -/
/-- What a word means, the first j letters aside. -/
def letF (j : Nat) (w : List UInt8) : Int := if j ≤ 0 ∧ w = [77] then 1 else if j ≤ 1 ∧ w = [76] then 2 else if j ≤ 2 ∧ w = [81] then 3 else if j ≤ 3 ∧ w = [67] then 4 else if j ≤ 4 ∧ w = [90] then 5 else 0
theorem letF_0 (w : List UInt8) : letterV w = letF 0 w := by unfold letterV letF; simp
theorem r8verb_any (t : ByteArray) (wd : List UInt8) (w : World) (ht : t.data.toList = wd) :
    Calls Tryd.prog 25 #[.string t] w fun e w' => e = .returned (.int .i64 (letterV wd)) ∧ w = w' := by
  have x0 : (⟨#[77, 76, 81, 67, 90]⟩ : ByteArray).extract 0 1 = ⟨#[77]⟩ := by rfl
  have x1 : (⟨#[77, 76, 81, 67, 90]⟩ : ByteArray).extract 1 2 = ⟨#[76]⟩ := by rfl
  have x2 : (⟨#[77, 76, 81, 67, 90]⟩ : ByteArray).extract 2 3 = ⟨#[81]⟩ := by rfl
  have x3 : (⟨#[77, 76, 81, 67, 90]⟩ : ByteArray).extract 3 4 = ⟨#[67]⟩ := by rfl
  have x4 : (⟨#[77, 76, 81, 67, 90]⟩ : ByteArray).extract 4 5 = ⟨#[90]⟩ := by rfl
  have HT := Lib.hid ht
  clear ht
  go_enter Tryd.func25, Tryd.ntmps25
  go_wp2
  go_loop [3] (fun s3 => ∃ j : Nat, s3 = .int .i64 j ∧ j ≤ 5 ∧ letterV wd = letF j wd) (fun s3 => 5 - (intOf s3).toNat)
  case atStart => exact ⟨0, rfl, by omega, letF_0 wd⟩
  case round =>
    obtain ⟨j, rfl, hj, hr⟩ := hrel
    have HR := Lib.hid hr
    clear hr
    rcases (show j = 0 ∨ j = 1 ∨ j = 2 ∨ j = 3 ∨ j = 4 ∨ j = 5 by omega) with rfl | rfl | rfl | rfl | rfl | rfl
    · by_cases hw : wd = [77]
      · have q : (t.toList == [77]) = true := by rw [ByteArray.toList_eq, HT.out, hw]; rfl
        have F := Lib.hid (show letterV wd = 1 by rw [HR.out, hw]; rfl)
        clear hw
        go_wp2
        go_ret
        exact ⟨by rw [F.out]; rfl, rfl⟩
      · have q : (t.toList == [77]) = false := by rw [ByteArray.toList_eq, HT.out]; simpa using hw
        have F := Lib.hid (show letterV wd = letF 1 wd by rw [HR.out]; unfold letF; simp [hw])
        clear hw
        go_wp2
        go_round
        case rel => exact ⟨1, rfl, by omega, F.out⟩
        case measure => simp [intOf]
    · by_cases hw : wd = [76]
      · have q : (t.toList == [76]) = true := by rw [ByteArray.toList_eq, HT.out, hw]; rfl
        have F := Lib.hid (show letterV wd = 2 by rw [HR.out, hw]; rfl)
        clear hw
        go_wp2
        go_ret
        exact ⟨by rw [F.out]; rfl, rfl⟩
      · have q : (t.toList == [76]) = false := by rw [ByteArray.toList_eq, HT.out]; simpa using hw
        have F := Lib.hid (show letterV wd = letF 2 wd by rw [HR.out]; unfold letF; simp [hw])
        clear hw
        go_wp2
        go_round
        case rel => exact ⟨2, rfl, by omega, F.out⟩
        case measure => simp [intOf]
    · by_cases hw : wd = [81]
      · have q : (t.toList == [81]) = true := by rw [ByteArray.toList_eq, HT.out, hw]; rfl
        have F := Lib.hid (show letterV wd = 3 by rw [HR.out, hw]; rfl)
        clear hw
        go_wp2
        go_ret
        exact ⟨by rw [F.out]; rfl, rfl⟩
      · have q : (t.toList == [81]) = false := by rw [ByteArray.toList_eq, HT.out]; simpa using hw
        have F := Lib.hid (show letterV wd = letF 3 wd by rw [HR.out]; unfold letF; simp [hw])
        clear hw
        go_wp2
        go_round
        case rel => exact ⟨3, rfl, by omega, F.out⟩
        case measure => simp [intOf]
    · by_cases hw : wd = [67]
      · have q : (t.toList == [67]) = true := by rw [ByteArray.toList_eq, HT.out, hw]; rfl
        have F := Lib.hid (show letterV wd = 4 by rw [HR.out, hw]; rfl)
        clear hw
        go_wp2
        go_ret
        exact ⟨by rw [F.out]; rfl, rfl⟩
      · have q : (t.toList == [67]) = false := by rw [ByteArray.toList_eq, HT.out]; simpa using hw
        have F := Lib.hid (show letterV wd = letF 4 wd by rw [HR.out]; unfold letF; simp [hw])
        clear hw
        go_wp2
        go_round
        case rel => exact ⟨4, rfl, by omega, F.out⟩
        case measure => simp [intOf]
    · by_cases hw : wd = [90]
      · have q : (t.toList == [90]) = true := by rw [ByteArray.toList_eq, HT.out, hw]; rfl
        have F := Lib.hid (show letterV wd = 5 by rw [HR.out, hw]; rfl)
        clear hw
        go_wp2
        go_ret
        exact ⟨by rw [F.out]; rfl, rfl⟩
      · have q : (t.toList == [90]) = false := by rw [ByteArray.toList_eq, HT.out]; simpa using hw
        have F := Lib.hid (show letterV wd = letF 5 wd by rw [HR.out]; unfold letF; simp [hw])
        clear hw
        go_wp2
        go_round
        case rel => exact ⟨5, rfl, by omega, F.out⟩
        case measure => simp [intOf]
    · have F := Lib.hid (show letterV wd = 0 by rw [HR.out]; rfl)
      go_wp2
      go_ret
      exact ⟨by rw [F.out]; rfl, rfl⟩
end Go.Proofs.YtjjklchfcklahaaDoor
