/- What the document's own texts of numbers are: digits. -/
import Derived.Test.YtjjklchfcklahaaDoorCorn
import Derived.Laws.IdiomStrings
import Derived.Lib.ItoaLen
import Derived.Lib.Strings
namespace Go.Proofs.YtjjklchfcklahaaDoor
open Go.RowKit
set_option linter.unusedVariables false
set_option linter.unusedSimpArgs false
set_option maxHeartbeats 2000000

/-- A text of these bytes. -/
def S (l : List UInt8) : Value := .string ⟨l.toArray⟩
theorem one_byte (w : World) (b o cap : Nat) (x : Int) (h0 : 0 ≤ x) (h1 : x < 256) (h : w.cell? ⟨b, o, none⟩ = some (.int .u8 x)) :
    (convert 39 9 (.slice (some ⟨b, o, none⟩) 1 cap)).run Tryd.prog w = .ok (S [UInt8.ofNat x.toNat]) w := by
  refine run_convert_bytes_back w _ _ _ ⟨b, o, none⟩ cap [UInt8.ofNat x.toNat] Tryd.underlying39 Tryd.underlying5 Tryd.underlying9 ?_
  intro j hj
  have hj0 : j = 0 := by simpa using hj
  subst hj0
  have e : (((UInt8.ofNat x.toNat).toNat : Nat) : Int) = x := by simp; omega
  rw [List.getElem_cons_zero, e]
  exact h

/-- What the loop of digits has still to tell, and has told. -/
def told (n : Nat) (l : List UInt8) : List UInt8 := if n = 0 ∧ l ≠ [] then l else Lib.decDigits n ++ l
theorem told_end {l : List UInt8} (h : l ≠ []) : told 0 l = l := by unfold told; rw [if_pos ⟨rfl, h⟩]
theorem told_start (n : Nat) : told n [] = Lib.decDigits n := by unfold told; simp
theorem told_step (n : Nat) (l : List UInt8) (h : ¬ (n = 0 ∧ l ≠ [])) : told (n / 10) (UInt8.ofNat (48 + n % 10) :: l) = told n l := by
  unfold told
  rw [if_neg h]
  by_cases h0 : n < 10
  · have e : n / 10 = 0 := by omega
    rw [if_pos ⟨e, by simp⟩, Lib.decDigits_one h0]
    have e2 : n % 10 = n := by omega
    rw [e2]; rfl
  · rw [if_neg (by omega)]
    conv => rhs; rw [Lib.decDigits, dif_neg h0]
    simp

def strLen : Value → Nat
  | .string s => s.size
  | _ => 0
theorem told_le (k : Nat) (l : List UInt8) : l.length ≤ (told k l).length := by
  unfold told; split
  · exact Nat.le_refl _
  · simp
theorem told_size {k n : Nat} {s : ByteArray} (h : told k s.data.toList = Lib.decDigits n) (hn : n < 18446744073709551616) : s.size ≤ 20 := by
  have h1 := told_le k s.data.toList
  rw [h, Lib.decDigits_length] at h1
  have h2 := Lib.nDigits_le20 n hn
  have h3 : s.data.toList.length = s.size := Array.length_toList
  omega
theorem list_nil {s : ByteArray} : s.toList.isEmpty = true ↔ s.data.toList = [] := by rw [ByteArray.toList_eq, List.isEmpty_iff]
theorem str_eq {s : ByteArray} {l : List UInt8} (h : s.data.toList = l) : Value.string s = S l := by
  unfold S; rw [← h]
theorem cat_list (b s : ByteArray) : (b ++ s).data.toList = b.data.toList ++ s.data.toList := by rw [ByteArray.data_append, Array.toList_append]
theorem told_next {k n : Nat} {s bb : ByteArray} (h : told k s.data.toList = Lib.decDigits n) (hb : bb = ⟨#[UInt8.ofNat (48 + (k : Int) % 10).toNat]⟩) (h0 : ¬ (k = 0 ∧ s.data.toList ≠ [])) :
    told (k / 10) (bb ++ s).data.toList = Lib.decDigits n := by
  rw [cat_list, hb, ← h, ← told_step k s.data.toList h0]
  have e : (48 + (k : Int) % 10).toNat = 48 + k % 10 := by omega
  rw [e]
  rfl

theorem digits_any (n : Nat) (w : World) (hn : n < 18446744073709551616) :
    Calls Tryd.prog 27 #[.int .u64 n] w fun e w' => e = .returned (S (Lib.decDigits n)) ∧ Below w.heap.size w w' := by
  have HN := Lib.hid hn
  clear hn
  go_enter Tryd.func27, Tryd.ntmps27
  go_wp2
  go_loopw [0, 3] (fun s0 s3 wr => ∃ (k : Nat) (s : ByteArray), s0 = .int .u64 k ∧ s3 = .string s ∧ told k s.data.toList = Lib.decDigits n ∧ k ≤ n ∧ Below w.heap.size w wr) (fun s0 s3 _ => (intOf s0).toNat + (1 - strLen s3))
  case atStart => exact ⟨n, ⟨#[]⟩, rfl, rfl, told_start n, Nat.le_refl _, Below.refl _ _⟩
  case round =>
    obtain ⟨k, s, rfl, rfl, ht, hk, hB⟩ := hrel
    obtain ⟨bb, hbb⟩ : ∃ bb : ByteArray, bb = ⟨#[UInt8.ofNat (48 + (k : Int) % 10).toNat]⟩ := ⟨_, rfl⟩
    have kc : ∀ (wx : World) (b o : Nat), wx.cell? ⟨b, o, none⟩ = some (.int .u8 (48 + (k : Int) % 10)) → (convert 39 9 (.slice (some ⟨b, o, none⟩) 1 1)).run Tryd.prog wx = .ok (.string bb) wx := by
      intro wx b o h
      rw [hbb]
      exact one_byte wx b o 1 _ (by omega) (by omega) h
    have sz := told_size ht HN.out
    have sb : bb.size = 1 := by rw [hbb]; rfl
    have hle : ¬ 9223372036854775807 < bb.size + s.size := by omega
    have hHeap := hB.size
    have HBB := Lib.hid hbb
    have HT := Lib.hid ht
    clear hbb ht
    by_cases hk0 : k = 0
    · subst hk0
      by_cases hs0 : s.toList.isEmpty = true
      · go_wp2
        go_roundw
        case rel => exact ⟨0, _, rfl, rfl, told_next HT.out HBB.out (fun h => h.2 (list_nil.1 hs0)), Nat.zero_le _, hB.alloc hHeap _⟩
        case measure => 
          have e : s.size = 0 := by have := list_nil.1 hs0; rw [ByteArray.size, ← Array.length_toList, this]; rfl
          simp [intOf, strLen, e, sb]
      · have hs1 : s.toList.isEmpty = false := by simpa using hs0
        have hne : s.data.toList ≠ [] := fun h => hs0 (list_nil.2 h)
        have FIN := Lib.hid (str_eq ((told_end hne).symm.trans HT.out))
        clear hne hs0
        go_wp2
        go_ret
        exact ⟨by rw [FIN.out]; rfl, hB⟩
    · have hw : IntKind.u64.wrap ((k : Int) / 10) = (k : Int) / 10 := IntWalk.u64_in _ (by have := HN.out; omega)
      go_wp2
      go_roundw
      case rel => exact ⟨k / 10, _, by go_num, rfl, told_next HT.out HBB.out (fun h => hk0 h.1), by omega, hB.alloc hHeap _⟩
      case measure => simp [intOf, strLen, sb]; omega
end Go.Proofs.YtjjklchfcklahaaDoor
