import Derived.RangeFuncNested
import Derived.RangeFuncBound
import Derived.RangeFuncCalls
import Derived.RangeFuncLeaves
import Derived.RangeFuncFrom
import Derived.Shelf.Abstract
import Derived.Shelf.RegionOpen
import Derived.WalkKit
import Derived.OwnWalkIn
import Derived.TacticsInMore
import Derived.LoopNIn
import Derived.LoopIn
import Derived.Test.YtjjklchfcklahaaDoorScriptPt
import Derived.Test.YtjjklchfcklahaaDoorRef8
import Derived.Test.YtjjklchfcklahaaDoorTab8
import Derived.Test.YtjjklchfcklahaaDoorApp8
import Derived.Test.YtjjklchfcklahaaDoorCorn
import Derived.Test.YtjjklchfcklahaaDoorDivNum
import Derived.Test.YtjjklchfcklahaaDoorShelf
import Derived.Test.YtjjklchfcklahaaDoorDivTwo
import Derived.Test.YtjjklchfcklahaaDoorFixB
import Derived.Test.YtjjklchfcklahaaDoorFixF
import Derived.Test.YtjjklchfcklahaaDoorRef7C
import Derived.Test.YtjjklchfcklahaaDoorRef8Q
import Derived.Test.YtjjklchfcklahaaDoorPthC
import Derived.RangeFuncBox
/- The program's own iterator over the words of a text: its contract. -/
namespace Go.Proofs.YtjjklchfcklahaaDoor
open Go.RowKit Go.Shelf
set_option linter.unusedVariables false
set_option linter.unusedSimpArgs false
set_option maxHeartbeats 2000000
set_option maxRecDepth 100000

theorem sblank_any (c : UInt8) (w : World) :
    Calls Tryd.prog 40 #[.int .u8 c.toNat] w fun e w' => e = .returned (.bool (blankB c)) ∧ w = w' := by
  obtain ⟨n, hn⟩ : ∃ n : Nat, c.toNat = n := ⟨_, rfl⟩
  have e : ∀ k : UInt8, (c == k) = ((n : Int) == (k.toNat : Int)) := fun k => by
    rw [Bool.eq_iff_iff, beq_iff_eq, beq_iff_eq, ← hn]
    exact ⟨fun h => by rw [h], fun h => UInt8.toNat_inj.1 (by omega)⟩
  have F := Lib.hid (show blankB c = ((n : Int) == 9 || (n : Int) == 10 || (n : Int) == 13 || (n : Int) == 32 || (n : Int) == 44) by
    unfold blankB; rw [e 9, e 10, e 13, e 32, e 44]; rfl)
  rw [hn, F.out]
  clear F e hn
  by_cases h1 : n = 9
  · subst h1
    go_enter Tryd.func40, Tryd.ntmps40
    go_wp2
    go_ret
    exact ⟨rfl, rfl⟩
  · have q1 : ((n : Int) == 9) = false := by simp; omega
    by_cases h2 : n = 10
    · subst h2
      clear q1 h1
      go_enter Tryd.func40, Tryd.ntmps40
      go_wp2
      go_ret
      exact ⟨rfl, rfl⟩
    · have q2 : ((n : Int) == 10) = false := by simp; omega
      by_cases h3 : n = 13
      · subst h3
        clear q1 q2 h1 h2
        go_enter Tryd.func40, Tryd.ntmps40
        go_wp2
        go_ret
        exact ⟨rfl, rfl⟩
      · have q3 : ((n : Int) == 13) = false := by simp; omega
        by_cases h4 : n = 32
        · subst h4
          clear q1 q2 q3 h1 h2 h3
          go_enter Tryd.func40, Tryd.ntmps40
          go_wp2
          go_ret
          exact ⟨rfl, rfl⟩
        · have q4 : ((n : Int) == 32) = false := by simp; omega
          by_cases h5 : n = 44
          · subst h5
            clear q1 q2 q3 q4 h1 h2 h3 h4
            go_enter Tryd.func40, Tryd.ntmps40
            go_wp2
            go_ret
            exact ⟨rfl, rfl⟩
          · have q5 : ((n : Int) == 44) = false := by simp; omega
            clear h1 h2 h3 h4 h5
            go_enter Tryd.func40, Tryd.ntmps40
            go_wp2
            go_ret
            exact ⟨by rw [q1, q2, q3, q4, q5]; rfl, rfl⟩

/-! ## Words by their places -/
theorem wl_none {r : List UInt8} (h : r = []) : wl r = [] := by subst h; exact wl_nil rfl
theorem wl_skip (l : List UInt8) (k : Nat) {c : UInt8} (h : l[k]? = some c) (hb : blankB c = true) : wl (l.drop k) = wl (l.drop (k + 1)) := by
  rw [← wl_rest (l.drop k), restB_drop l k h, if_pos hb, wl_rest]
theorem wl_past (l : List UInt8) (k : Nat) (h : l.length ≤ k) : wl (l.drop k) = [] := wl_none (List.drop_of_length_le h)
theorem word_app {w : List UInt8} (h : ∀ c ∈ w, blankB c = false) {r : List UInt8} (hr : r = [] ∨ ∃ c t, r = c :: t ∧ blankB c = true) : wordW (w ++ r) = w ∧ restW (w ++ r) = r := by
  induction w with
  | nil =>
    rcases hr with rfl | ⟨c, t, rfl, hb⟩
    · exact ⟨rfl, rfl⟩
    · unfold wordW restW
      rw [List.nil_append, List.takeWhile_cons, List.dropWhile_cons, hb]
      exact ⟨rfl, rfl⟩
  | cons c t ih =>
    have hc := h c (by simp)
    obtain ⟨i1, i2⟩ := ih (fun d hd => h d (by simp [hd]))
    unfold wordW at i1 ⊢
    unfold restW at i2 ⊢
    rw [List.cons_append, List.takeWhile_cons, List.dropWhile_cons, hc]
    exact ⟨by simp [i1], by simpa using i2⟩
theorem wl_word (l : List UInt8) (f k : Nat) (hfk : f < k) (hk : k ≤ l.length) (hn : ∀ c ∈ (l.drop f).take (k - f), blankB c = false) (he : k = l.length ∨ ∃ c, l[k]? = some c ∧ blankB c = true) :
    wl (l.drop f) = (l.length - f, (l.drop f).take (k - f)) :: wl (l.drop (k + 1)) := by
  have hsplit : l.drop f = (l.drop f).take (k - f) ++ l.drop k := by
    conv => lhs; rw [← List.take_append_drop (k - f) (l.drop f)]
    rw [List.drop_drop, show f + (k - f) = k by omega]
  have hw0 : (l.drop f).take (k - f) ≠ [] := by
    intro e
    have := congrArg List.length e
    rw [List.length_take, List.length_drop] at this
    simp at this
    omega
  have hr : l.drop k = [] ∨ ∃ c t, l.drop k = c :: t ∧ blankB c = true := by
    rcases he with e | ⟨c, h1, h2⟩
    · exact .inl (List.drop_of_length_le (by omega))
    · obtain ⟨hk', e⟩ := List.getElem?_eq_some_iff.1 h1
      exact .inr ⟨c, _, by rw [List.drop_eq_getElem_cons hk', e], h2⟩
  have hR : restB (l.drop f) = l.drop f := by
    rw [hsplit]
    exact restB_word ⟨hw0, hn⟩ _
  obtain ⟨h1, h2⟩ := word_app hn hr
  rw [← hsplit] at h1 h2
  have hwl := wl_cons (r := l.drop f) (by rw [hR, h1]; exact hw0)
  rw [hwl, hR, h1, h2, List.length_drop]
  congr 1
  rcases he with e | ⟨c, h3, h4⟩
  · rw [wl_past l k (by omega), wl_past l (k + 1) (by omega)]
  · exact wl_skip l k h3 h4
theorem take_more (l : List UInt8) (f k : Nat) (hfk : f ≤ k) {c : UInt8} (h : l[k]? = some c) (hb : blankB c = false) (hn : ∀ c ∈ (l.drop f).take (k - f), blankB c = false) : ∀ c ∈ (l.drop f).take (k + 1 - f), blankB c = false := by
  have e : (l.drop f).take (k + 1 - f) = (l.drop f).take (k - f) ++ [c] := by
    rw [show k + 1 - f = (k - f) + 1 by omega, List.take_add_one, List.getElem?_drop, show f + (k - f) = k by omega, h]; rfl
  rw [e]
  intro d hd
  rcases List.mem_append.1 hd with h1 | h1
  · exact hn d h1
  · rw [List.mem_singleton] at h1; rw [h1]; exact hb

/-! ## The iterator -/
/-- A word with its place. -/
abbrev Wrd (L : Nat) := { x : Nat × ByteArray // x.1 ≤ L ∧ x.2.size ≤ L }
def wrd {L : Nat} (x : Wrd L) : Nat × List UInt8 := (L - x.val.1, x.val.2.data.toList)
/-- The captured cell stays, and so does all below n₀. -/
def KeepW (B n₀ : Nat) (W W' : World) : Prop := (∀ v, W.cell? ⟨B, 0, none⟩ = some v → W'.cell? ⟨B, 0, none⟩ = some v) ∧ Below n₀ W W'
theorem keepW_t {B n₀ : Nat} {X Y Z : World} (h : KeepW B n₀ X Y) (k : KeepW B n₀ Y Z) : KeepW B n₀ X Z := ⟨fun v e => k.1 v (h.1 v e), h.2.trans k.2⟩
theorem keepW_b {B n₀ : Nat} {w : World} (hn : n₀ ≤ w.heap.size) (W : World) (l : Nat) (o o' : Obj) (hl : w.heap.size ≤ l) (h : W.heap[l]? = some o) (ho : o.isCells = false) (hw : o.isWalk = false) : KeepW B n₀ W (W.putObj l o') :=
  ⟨fun v e => cell_kept e (grownBy_putObj' W l o') (fun r e => by cases e; exact ⟨o, h, ho⟩), belowK_b hn W l o o' hl h ho hw⟩
theorem words1_in (n lp B n₀ : Nat) (hn : 1 ≤ n) (s : ByteArray) (l : List UInt8) (hs : s.data.toList = l) (hl : l.length ≤ 1048576) (J Jx : List (Wrd s.size) → World → Prop)
    (hJd : ∀ s W n, J s W → J s (W.drewN n))
    (hY : ∀ pre (x : Wrd s.size) W, J pre W → pre.length < 1048576 → YieldAt Fence.wide (n - 1) Tryd.prog lp #[.int .i64 x.val.1, .string x.val.2] W fun e W' =>
      (e = .returned (.bool true) ∧ J (pre ++ [x]) W' ∧ KeepW B n₀ W W') ∨ (e = .returned (.bool false) ∧ Jx (pre ++ [x]) W'))
    (W : World) (c1 : W.cell? ⟨B, 0, none⟩ = some (.string s)) (hJ : J [] W) :
    CallsIn Fence.wide n Tryd.prog 39 #[.func (.yield lp) #[] #[], .pointer (some ⟨B, 0, none⟩)] W fun e W' => (∃ v, e = .returned v) ∧
      ((∃ ys : List (Wrd s.size), ys.map wrd = wl l ∧ J ys W') ∨ (∃ pre : List (Wrd s.size), pre.map wrd <+: wl l ∧ Jx pre W')) := by
  have hz : l.length = s.size := by rw [← hs, Array.length_toList]; rfl
  have HS := Lib.hid hs
  have HL := Lib.hid hz
  rw [hz] at hl
  clear hs hz
  have w0 : IntKind.i64.wrap ((s.size : Int) + 1) = (s.size : Int) + 1 := IntWalk.i64_in _ (by omega)
  refine callsIn_of_wp Tryd.func39 rfl trivial ?_ rfl
  simp only [Tryd.ntmps39, List.size_toArray, List.length_cons, List.length_nil, Nat.reduceAdd, Nat.reduceSub, Array.replicate_succ, Array.replicate_zero, List.push_toArray, List.append_toArray, List.nil_append, List.cons_append]
  gi_wp2
  gi_loopw [3, 8] (fun s3 s8 wr => ∃ f k : Nat, s3 = .int .i64 f ∧ s8 = .int .i64 k ∧ f ≤ k ∧ (k ≤ s.size ∨ (k = s.size + 1 ∧ f = k)) ∧ (∀ c ∈ (l.drop f).take (k - f), blankB c = false) ∧ (∃ pre : List (Wrd s.size), pre.map wrd ++ wl (l.drop f) = wl l ∧ pre.length ≤ f ∧ J pre wr) ∧ KeepW B n₀ W wr)
    (fun _ s8 _ => s.size + 1 - (intOf s8).toNat)
  case atStart => exact ⟨0, 0, rfl, rfl, Nat.le_refl _, by omega, by simp, ⟨[], by simp, Nat.le_refl _, hJ⟩, ⟨fun _ e => e, Below.refl _ _⟩⟩
  case round =>
    obtain ⟨f, k, rfl, rfl, hfk, hkL, hnb, ⟨pre, hpre, hpl, hJs⟩, hnx⟩ := hrel
    have HPRE := Lib.hid hpre
    clear hpre
    by_cases hlt : k < s.size + 1
    · have cB := hnx.1 _ c1
      have q1 : decide ((k : Int) < (s.size : Int) + 1) = true := by simp; omega
      have q11 : IntKind.i64.wrap ((k : Int) + 1) = (k : Int) + 1 := IntWalk.i64_in _ (by omega)
      have q12 : (0 : Int) ≤ (k : Int) := by omega
      by_cases hkl : k < s.size
      · obtain ⟨c, hc⟩ : ∃ c, s[k] = c := ⟨_, rfl⟩
        have hcl : l[k]? = some c := by rw [← HS.out, byte_at s k hkl, hc]
        obtain ⟨b, hb⟩ : ∃ b, blankB c = b := ⟨_, rfl⟩
        have BL0 := fun w => sblank_any c w
        simp only [hb] at BL0
        have BL := Lib.hid BL0
        have q2 : decide ((k : Int) < (s.size : Int)) = true := by simp; omega
        have q3 : decide (k < s.size) = true := by simp; omega
        clear BL0
        cases b
        · have HF := Lib.hid (take_more l f k hfk hcl hb hnb)
          clear hb hcl hnb
          gi_wp2_with (refine ⟨trivial, ?_⟩; gi_at_call 40; refine (callsIn_wide.2 (BL.out _)).mono ?_; rintro e w' ⟨rfl, rfl⟩)
          go_roundw
          case rel => exact ⟨f, k + 1, by go_num, by go_num, by omega, by omega, HF.out, ⟨pre, HPRE.out, by omega, hJs⟩, hnx⟩
          case measure => simp [intOf]; omega
        · have HWD := Lib.hid (fun hf => by have := wl_word l f k hf (by rw [HL.out]; omega) hnb (.inr ⟨c, hcl, hb⟩); rw [HL.out] at this; exact this)
          have HWS := Lib.hid (wl_skip l k hcl hb)
          clear hb hcl hnb
          by_cases hf : f < k
          · obtain ⟨X, hX⟩ : ∃ X : Wrd s.size, X.val = (f, s.extract f k) := ⟨⟨(f, s.extract f k), by dsimp only; omega, by dsimp only; rw [ByteArray.size_extract]; omega⟩, rfl⟩
            have hw1 := HWD.out hf
            have hx1 : wrd X = (s.size - f, (l.drop f).take (k - f)) := by unfold wrd; rw [hX]; dsimp only; rw [extract_at, HS.out]
            have HE := Lib.hid (show (pre ++ [X]).map wrd ++ wl (l.drop (k + 1)) = wl l by rw [List.map_append, List.append_assoc, List.map_singleton, hx1, List.singleton_append, ← hw1]; exact HPRE.out)
            have HP := Lib.hid (show (pre ++ [X]).map wrd <+: wl l by rw [← HE.out]; exact List.prefix_append _ _)
            have q6 : decide ((f : Int) < (k : Int)) = true := by simp; omega
            have q7 : decide (f < k) = true := by simp; omega
            have q8 : (0 : Int) ≤ (f : Int) := by omega
            have q9 : (f : Int) ≤ (k : Int) := by omega
            have q10 : (k : Int) ≤ (s.size : Int) := by omega
            obtain ⟨fn, tmps, assign, body, hy, hR⟩ := hY pre X wr hJs (by omega)
            rw [hX] at hy
            dsimp only at hy
            clear hJs hx1 hw1
            gi_wp2_with (refine ⟨trivial, ?_⟩; gi_at_call 40; refine (callsIn_wide.2 (BL.out _)).mono ?_; rintro e w' ⟨rfl, rfl⟩)
            refine hR.mono ?_
            rintro e W3 (⟨rfl, hJ3, hk3⟩ | ⟨rfl, hJx3⟩)
            · have hkW := keepW_t hnx hk3
              gi_wp2
              go_roundw
              case rel => exact ⟨k + 1, k + 1, by go_num, by go_num, Nat.le_refl _, by omega, by simp, ⟨_, HE.out, by simp; omega, hJ3⟩, hkW⟩
              case measure => simp [intOf]; omega
            · gi_wp2
              refine bodyPost_ret (results_none rfl _ _ _) rfl ?_
              exact ⟨⟨_, rfl⟩, .inr ⟨_, HP.out, hJx3⟩⟩
          · have hfk2 : f = k := by omega
            subst hfk2
            have HE := Lib.hid (show pre.map wrd ++ wl (l.drop (f + 1)) = wl l by rw [← HWS.out]; exact HPRE.out)
            have q6 : decide ((f : Int) < (f : Int)) = false := by simp
            have q7 : decide (f < f) = false := by simp
            gi_wp2_with (refine ⟨trivial, ?_⟩; gi_at_call 40; refine (callsIn_wide.2 (BL.out _)).mono ?_; rintro e w' ⟨rfl, rfl⟩)
            refine ⟨fun _ h => (by cases h), ?_⟩
            gi_wp2
            go_roundw
            case rel => exact ⟨f + 1, f + 1, by go_num, by go_num, Nat.le_refl _, by omega, by simp, ⟨pre, HE.out, by omega, hJs⟩, hnx⟩
            case measure => simp [intOf]; omega
      · have hkL2 : k = s.size := by omega
        have HWD := Lib.hid (fun hf => by have := wl_word l f k hf (by rw [HL.out]; omega) hnb (.inl (by rw [HL.out]; exact hkL2)); rw [HL.out] at this; exact this)
        have HWS := Lib.hid (show wl (l.drop k) = wl (l.drop (k + 1)) by rw [wl_past l k (by rw [HL.out]; omega), wl_past l (k + 1) (by rw [HL.out]; omega)])
        have q2 : decide ((k : Int) < (s.size : Int)) = false := by simp; omega
        have q3 : decide (k < s.size) = false := by simp; omega
        have hkle : k ≤ s.size := by omega
        clear hnb hkL2
        by_cases hf : f < k
        · obtain ⟨X, hX⟩ : ∃ X : Wrd s.size, X.val = (f, s.extract f k) := ⟨⟨(f, s.extract f k), by dsimp only; omega, by dsimp only; rw [ByteArray.size_extract]; omega⟩, rfl⟩
          have hw1 := HWD.out hf
          have hx1 : wrd X = (s.size - f, (l.drop f).take (k - f)) := by unfold wrd; rw [hX]; dsimp only; rw [extract_at, HS.out]
          have HE := Lib.hid (show (pre ++ [X]).map wrd ++ wl (l.drop (k + 1)) = wl l by rw [List.map_append, List.append_assoc, List.map_singleton, hx1, List.singleton_append, ← hw1]; exact HPRE.out)
          have HP := Lib.hid (show (pre ++ [X]).map wrd <+: wl l by rw [← HE.out]; exact List.prefix_append _ _)
          have q6 : decide ((f : Int) < (k : Int)) = true := by simp; omega
          have q7 : decide (f < k) = true := by simp; omega
          have q8 : (0 : Int) ≤ (f : Int) := by omega
          have q9 : (f : Int) ≤ (k : Int) := by omega
          have q10 : (k : Int) ≤ (s.size : Int) := by omega
          obtain ⟨fn, tmps, assign, body, hy, hR⟩ := hY pre X wr hJs (by omega)
          rw [hX] at hy
          dsimp only at hy
          clear hJs hx1 hw1
          gi_wp2
          refine ⟨trivial, ?_⟩
          gi_wp2
          refine hR.mono ?_
          rintro e W3 (⟨rfl, hJ3, hk3⟩ | ⟨rfl, hJx3⟩)
          · have hkW := keepW_t hnx hk3
            gi_wp2
            go_roundw
            case rel => exact ⟨k + 1, k + 1, by go_num, by go_num, Nat.le_refl _, by omega, by simp, ⟨_, HE.out, by simp; omega, hJ3⟩, hkW⟩
            case measure => simp [intOf]; omega
          · gi_wp2
            refine bodyPost_ret (results_none rfl _ _ _) rfl ?_
            exact ⟨⟨_, rfl⟩, .inr ⟨_, HP.out, hJx3⟩⟩
        · have hfk2 : f = k := by omega
          subst hfk2
          have HE := Lib.hid (show pre.map wrd ++ wl (l.drop (f + 1)) = wl l by rw [← HWS.out]; exact HPRE.out)
          have q6 : decide ((f : Int) < (f : Int)) = false := by simp
          have q7 : decide (f < f) = false := by simp
          gi_wp2
          refine ⟨trivial, ?_⟩
          gi_wp2
          refine ⟨fun _ h => (by cases h), ?_⟩
          gi_wp2
          go_roundw
          case rel => exact ⟨f + 1, f + 1, by go_num, by go_num, Nat.le_refl _, by omega, by simp, ⟨pre, HE.out, by omega, hJs⟩, hnx⟩
          case measure => simp [intOf]; omega
    · have q1 : decide ((k : Int) < (s.size : Int) + 1) = false := by simp; omega
      have HE := Lib.hid (show pre.map wrd = wl l by rw [← HPRE.out, wl_past l f (by rw [HL.out]; omega), List.append_nil])
      gi_wp2
      go_end0
      exact ⟨⟨_, rfl⟩, .inl ⟨_, HE.out, hJs⟩⟩

theorem words_in (n : Nat) (s : ByteArray) (w : World) :
    CallsIn Fence.wide n Tryd.prog 22 #[.string s] w fun e w' => e = .returned (.func (.func 39) #[] #[.pointer (some ⟨w.heap.size, 0, none⟩)]) ∧ w' = w.alloc (.cells #[.string s] 9) := by
  refine callsIn_of_wp Tryd.func22 rfl trivial ?_ rfl
  simp only [Tryd.ntmps22, List.size_toArray, List.length_cons, List.length_nil, Nat.reduceAdd, Nat.reduceSub, Array.replicate_succ, Array.replicate_zero, List.push_toArray, List.append_toArray, List.nil_append, List.cons_append]
  gi_wp2
  go_ret
  exact ⟨rfl, rfl⟩

/-- The words of a text come in their order: all, or up to one at which the body has stopped. -/
theorem words_stops (n B n₀ : Nat) (hn : 1 ≤ n) (s : ByteArray) (l : List UInt8) (hs : s.data.toList = l) (hl : l.length ≤ 1048576) (w : World) (hB : B < w.heap.size) (c1 : w.cell? ⟨B, 0, none⟩ = some (.string s)) :
    SeqStopsK Fence.wide n Tryd.prog 39 #[.pointer (some ⟨B, 0, none⟩)] (fun x : Wrd s.size => #[.int .i64 x.val.1, .string x.val.2]) (KeepW B n₀) (fun ys : List (Wrd s.size) => ys.map wrd = wl l) (fun pre : List (Wrd s.size) => pre.map wrd <+: wl l) 1048576 w := fun lp J Jx W hW hJ hJx hY h00 =>
  words1_in n lp B n₀ hn s l hs hl J Jx (fun s W n hs => hJ s W _ none hs ⟨rfl, rfl, rfl, Nat.le_refl _, fun _ _ _ => rfl⟩ (fun r e => by cases e))
    hY W ((hW.cell (p := ⟨B, 0, none⟩) hB).trans c1) h00
end Go.Proofs.YtjjklchfcklahaaDoor

/- The machine that takes a text's words one by one: verbOf, begin, number, take. -/
namespace Go.Proofs.YtjjklchfcklahaaDoor
open Go.RowKit
set_option linter.unusedVariables false
set_option linter.unusedSimpArgs false
set_option maxHeartbeats 2000000
set_option maxRecDepth 100000

/-! ## Letters -/
def letG (j : Nat) (w : List UInt8) : Int := if j ≤ 1 ∧ w = [77] then 1 else if j ≤ 2 ∧ w = [76] then 2 else if j ≤ 3 ∧ w = [81] then 3 else if j ≤ 4 ∧ w = [67] then 4 else if j ≤ 5 ∧ w = [90] then 5 else 0
theorem letG_0 (w : List UInt8) : letterV w = letG 0 w := by unfold letterV letG; simp
theorem letG_1 (w : List UInt8) : letG 0 w = letG 1 w := by unfold letG; simp
/-- The empty word means no verb, and the empty letter answers 0. -/
theorem sverb_any (t : ByteArray) (wd : List UInt8) (w : World) (ht : t.data.toList = wd) (hT : Tab9 w) :
    Calls Tryd.prog 42 #[.string t] w fun e w' => e = .returned (.int .i64 (letterV wd)) ∧ w' = w := by
  have HT := Lib.hid ht
  have k0 := hT.cell 0; have k1 := hT.cell 1; have k2 := hT.cell 2; have k3 := hT.cell 3; have k4 := hT.cell 4; have k5 := hT.cell 5
  simp only [letCells, List.getElem?_toArray, List.getElem?_cons_zero, List.getElem?_cons_succ] at k0 k1 k2 k3 k4 k5
  have i0 : ∀ w, (Instr.index 49 (.agg #[.string ⟨#[]⟩, .string ⟨#[77]⟩, .string ⟨#[76]⟩, .string ⟨#[81]⟩, .string ⟨#[67]⟩, .string ⟨#[90]⟩]) (.int .i64 0)).run Tryd.prog w = .ok (.string ⟨#[]⟩) w := fun _ => by kernel_rfl
  have i1 : ∀ w, (Instr.index 49 (.agg #[.string ⟨#[]⟩, .string ⟨#[77]⟩, .string ⟨#[76]⟩, .string ⟨#[81]⟩, .string ⟨#[67]⟩, .string ⟨#[90]⟩]) (.int .i64 1)).run Tryd.prog w = .ok (.string ⟨#[77]⟩) w := fun _ => by kernel_rfl
  have i2 : ∀ w, (Instr.index 49 (.agg #[.string ⟨#[]⟩, .string ⟨#[77]⟩, .string ⟨#[76]⟩, .string ⟨#[81]⟩, .string ⟨#[67]⟩, .string ⟨#[90]⟩]) (.int .i64 2)).run Tryd.prog w = .ok (.string ⟨#[76]⟩) w := fun _ => by kernel_rfl
  have i3 : ∀ w, (Instr.index 49 (.agg #[.string ⟨#[]⟩, .string ⟨#[77]⟩, .string ⟨#[76]⟩, .string ⟨#[81]⟩, .string ⟨#[67]⟩, .string ⟨#[90]⟩]) (.int .i64 3)).run Tryd.prog w = .ok (.string ⟨#[81]⟩) w := fun _ => by kernel_rfl
  have i4 : ∀ w, (Instr.index 49 (.agg #[.string ⟨#[]⟩, .string ⟨#[77]⟩, .string ⟨#[76]⟩, .string ⟨#[81]⟩, .string ⟨#[67]⟩, .string ⟨#[90]⟩]) (.int .i64 4)).run Tryd.prog w = .ok (.string ⟨#[67]⟩) w := fun _ => by kernel_rfl
  have i5 : ∀ w, (Instr.index 49 (.agg #[.string ⟨#[]⟩, .string ⟨#[77]⟩, .string ⟨#[76]⟩, .string ⟨#[81]⟩, .string ⟨#[67]⟩, .string ⟨#[90]⟩]) (.int .i64 5)).run Tryd.prog w = .ok (.string ⟨#[90]⟩) w := fun _ => by kernel_rfl
  clear ht hT
  go_enter Tryd.func42, Tryd.ntmps42
  go_wp2
  go_loop [6] (fun s6 => ∃ j : Nat, s6 = .int .i64 j ∧ j ≤ 6 ∧ letterV wd = letG j wd) (fun s6 => 6 - (intOf s6).toNat)
  case atStart => exact ⟨0, rfl, by omega, letG_0 wd⟩
  case round =>
    obtain ⟨j, rfl, hj, hr⟩ := hrel
    have HR := Lib.hid hr
    clear hr
    rcases (show j = 0 ∨ j = 1 ∨ j = 2 ∨ j = 3 ∨ j = 4 ∨ j = 5 ∨ j = 6 by omega) with rfl | rfl | rfl | rfl | rfl | rfl | rfl
    · by_cases hw : wd = []
      · have q : (t.toList == []) = true := by rw [ByteArray.toList_eq, HT.out, hw]; rfl
        have q2 : ([] == t.toList) = true := by rw [ByteArray.toList_eq, HT.out, hw]; rfl
        have F := Lib.hid (show letterV wd = 0 by rw [hw]; rfl)
        clear hw
        go_wp2
        go_ret
        exact ⟨by rw [F.out]; rfl, rfl⟩
      · have q : (t.toList == []) = false := by rw [ByteArray.toList_eq, HT.out]; simpa using hw
        have q2 : ([] == t.toList) = false := by rw [ByteArray.toList_eq, HT.out, beq_eq_false_iff_ne]; exact fun e => hw e.symm
        have F := Lib.hid (show letterV wd = letG 1 wd by rw [HR.out, letG_1])
        clear hw
        go_wp2
        go_round
        case rel => exact ⟨1, rfl, by omega, F.out⟩
        case measure => simp [intOf]
    · by_cases hw : wd = [77]
      · have q : (t.toList == [77]) = true := by rw [ByteArray.toList_eq, HT.out, hw]; rfl
        have q2 : ([77] == t.toList) = true := by rw [ByteArray.toList_eq, HT.out, hw]; rfl
        have F := Lib.hid (show letterV wd = 1 by rw [HR.out, hw]; rfl)
        clear hw
        go_wp2
        go_ret
        exact ⟨by rw [F.out]; rfl, rfl⟩
      · have q : (t.toList == [77]) = false := by rw [ByteArray.toList_eq, HT.out]; simpa using hw
        have q2 : ([77] == t.toList) = false := by rw [ByteArray.toList_eq, HT.out, beq_eq_false_iff_ne]; exact fun e => hw e.symm
        have F := Lib.hid (show letterV wd = letG 2 wd by rw [HR.out]; unfold letG; simp [hw])
        clear hw
        go_wp2
        go_round
        case rel => exact ⟨2, rfl, by omega, F.out⟩
        case measure => simp [intOf]
    · by_cases hw : wd = [76]
      · have q : (t.toList == [76]) = true := by rw [ByteArray.toList_eq, HT.out, hw]; rfl
        have q2 : ([76] == t.toList) = true := by rw [ByteArray.toList_eq, HT.out, hw]; rfl
        have F := Lib.hid (show letterV wd = 2 by rw [HR.out, hw]; rfl)
        clear hw
        go_wp2
        go_ret
        exact ⟨by rw [F.out]; rfl, rfl⟩
      · have q : (t.toList == [76]) = false := by rw [ByteArray.toList_eq, HT.out]; simpa using hw
        have q2 : ([76] == t.toList) = false := by rw [ByteArray.toList_eq, HT.out, beq_eq_false_iff_ne]; exact fun e => hw e.symm
        have F := Lib.hid (show letterV wd = letG 3 wd by rw [HR.out]; unfold letG; simp [hw])
        clear hw
        go_wp2
        go_round
        case rel => exact ⟨3, rfl, by omega, F.out⟩
        case measure => simp [intOf]
    · by_cases hw : wd = [81]
      · have q : (t.toList == [81]) = true := by rw [ByteArray.toList_eq, HT.out, hw]; rfl
        have q2 : ([81] == t.toList) = true := by rw [ByteArray.toList_eq, HT.out, hw]; rfl
        have F := Lib.hid (show letterV wd = 3 by rw [HR.out, hw]; rfl)
        clear hw
        go_wp2
        go_ret
        exact ⟨by rw [F.out]; rfl, rfl⟩
      · have q : (t.toList == [81]) = false := by rw [ByteArray.toList_eq, HT.out]; simpa using hw
        have q2 : ([81] == t.toList) = false := by rw [ByteArray.toList_eq, HT.out, beq_eq_false_iff_ne]; exact fun e => hw e.symm
        have F := Lib.hid (show letterV wd = letG 4 wd by rw [HR.out]; unfold letG; simp [hw])
        clear hw
        go_wp2
        go_round
        case rel => exact ⟨4, rfl, by omega, F.out⟩
        case measure => simp [intOf]
    · by_cases hw : wd = [67]
      · have q : (t.toList == [67]) = true := by rw [ByteArray.toList_eq, HT.out, hw]; rfl
        have q2 : ([67] == t.toList) = true := by rw [ByteArray.toList_eq, HT.out, hw]; rfl
        have F := Lib.hid (show letterV wd = 4 by rw [HR.out, hw]; rfl)
        clear hw
        go_wp2
        go_ret
        exact ⟨by rw [F.out]; rfl, rfl⟩
      · have q : (t.toList == [67]) = false := by rw [ByteArray.toList_eq, HT.out]; simpa using hw
        have q2 : ([67] == t.toList) = false := by rw [ByteArray.toList_eq, HT.out, beq_eq_false_iff_ne]; exact fun e => hw e.symm
        have F := Lib.hid (show letterV wd = letG 5 wd by rw [HR.out]; unfold letG; simp [hw])
        clear hw
        go_wp2
        go_round
        case rel => exact ⟨5, rfl, by omega, F.out⟩
        case measure => simp [intOf]
    · by_cases hw : wd = [90]
      · have q : (t.toList == [90]) = true := by rw [ByteArray.toList_eq, HT.out, hw]; rfl
        have q2 : ([90] == t.toList) = true := by rw [ByteArray.toList_eq, HT.out, hw]; rfl
        have F := Lib.hid (show letterV wd = 5 by rw [HR.out, hw]; rfl)
        clear hw
        go_wp2
        go_ret
        exact ⟨by rw [F.out]; rfl, rfl⟩
      · have q : (t.toList == [90]) = false := by rw [ByteArray.toList_eq, HT.out]; simpa using hw
        have q2 : ([90] == t.toList) = false := by rw [ByteArray.toList_eq, HT.out, beq_eq_false_iff_ne]; exact fun e => hw e.symm
        have F := Lib.hid (show letterV wd = letG 6 wd by rw [HR.out]; unfold letG; simp [hw])
        clear hw
        go_wp2
        go_round
        case rel => exact ⟨6, rfl, by omega, F.out⟩
        case measure => simp [intOf]
    · have F := Lib.hid (show letterV wd = 0 by rw [HR.out]; rfl)
      go_wp2
      go_ret
      exact ⟨by rw [F.out]; rfl, rfl⟩
end Go.Proofs.YtjjklchfcklahaaDoor

/- The machine that takes a text's words one by one: its memory, and begin. -/
namespace Go.Proofs.YtjjklchfcklahaaDoor
open Go.RowKit
set_option linter.unusedVariables false
set_option linter.unusedSimpArgs false
set_option maxHeartbeats 2000000
set_option maxRecDepth 100000

/-- What stands behind the path in the machine's block: how many numbers are lacking, and the verb that numbers tell. -/
structure EX (G : Nat) (la ag : Int) (x : World) : Prop where
  c2 : x.cell? ⟨G, 2, none⟩ = some (.int .i64 la)
  c3 : x.cell? ⟨G, 3, none⟩ = some (.int .i64 ag)
  f2 : x.frozen? ⟨G, 2, none⟩ = false
  f3 : x.frozen? ⟨G, 3, none⟩ = false
theorem EX.step {G : Nat} {la ag : Int} {x y : World} (h : EX G la ag x) (hb : Below (G + 1) x y) : EX G la ag y :=
  ⟨(hb.cell (Nat.lt_succ_self _)).trans h.c2, (hb.cell (Nat.lt_succ_self _)).trans h.c3, (hb.frozen (Nat.lt_succ_self _)).trans h.f2, (hb.frozen (Nat.lt_succ_self _)).trans h.f3⟩
theorem EX.drew {G : Nat} {la ag : Int} {x : World} (h : EX G la ag x) : EX G la ag x.drew := ⟨h.c2, h.c3, h.f2, h.f3⟩
theorem EX.low {G : Nat} {la ag : Int} {x : World} (h : EX G la ag x) (j : Nat) (hj : j < 2) (u : Value) : EX G la ag (x.setCell ⟨G, j, none⟩ u) :=
  ⟨(World.cell?_setCell_other _ _ _ _ (by simp; try omega)).trans h.c2, (World.cell?_setCell_other _ _ _ _ (by simp; try omega)).trans h.c3, by rw [World.frozen?_setCell]; exact h.f2, by rw [World.frozen?_setCell]; exact h.f3⟩
theorem EX.put2 {G : Nat} {la ag : Int} {x : World} (h : EX G la ag x) (z : Int) : EX G z ag (x.setCell ⟨G, 2, none⟩ (.int .i64 z)) :=
  ⟨World.cell?_setCell_same _ _ _ h.c2, (World.cell?_setCell_other _ _ _ _ (by simp)).trans h.c3, by rw [World.frozen?_setCell]; exact h.f2, by rw [World.frozen?_setCell]; exact h.f3⟩
theorem EX.put3 {G : Nat} {la ag : Int} {x : World} (h : EX G la ag x) (z : Int) : EX G la z (x.setCell ⟨G, 3, none⟩ (.int .i64 z)) :=
  ⟨(World.cell?_setCell_other _ _ _ _ (by simp)).trans h.c2, World.cell?_setCell_same _ _ _ h.c3, by rw [World.frozen?_setCell]; exact h.f2, by rw [World.frozen?_setCell]; exact h.f3⟩
theorem JS.high {G : Nat} {vs : List Int} {ps : List Pnt} {w1 x : World} {va v : Value} (h : JS G vs ps w1 x va v) (j : Nat) (hj : 2 ≤ j) (u : Value) : JS G vs ps w1 (x.setCell ⟨G, j, none⟩ u) va v :=
  ⟨⟨(World.cell?_setCell_other _ _ _ _ (by simp; try omega)).trans h.tb.c0, (World.cell?_setCell_other _ _ _ _ (by simp; try omega)).trans h.tb.c1, by rw [World.frozen?_setCell]; exact h.tb.f0, by rw [World.frozen?_setCell]; exact h.tb.f1, h.tb.bel.setCell (Nat.le_refl _) _, by simpa [World.setCell] using h.tb.sz⟩,
    ownsRow_set h.rv j u, ownsRow_set h.rp j u, h.ne⟩
theorem grown_set8 (w : World) (a : Addr) (u : Value) : w.grownBy (w.setCell a u) (some a.block) :=
  ⟨rfl, rfl, rfl, by simp [World.setCell], fun k hk hne => by
    unfold World.setCell
    rw [show ∀ f, ({ w with heap := w.heap.modify a.block f } : World).heap = w.heap.modify a.block f from fun _ => rfl, Array.getElem?_modify, if_neg (fun e => hne (by rw [e]))]⟩
/-- What the machine leaves alone: all below its block, and all but its block and rows of numbers and of points. -/
def Fr (G : Nat) (x y : World) : Prop := Below G x y ∧ x.heap.size ≤ y.heap.size ∧ ∀ (k : Nat) (o : Obj), x.heap[k]? = some o → k ≠ G → (∀ cs fz, o ≠ .cells cs 3 fz) → (∀ cs fz, o ≠ .cells cs 44 fz) → y.heap[k]? = some o
theorem Fr.refl (G : Nat) (x : World) : Fr G x x := ⟨Below.refl _ _, Nat.le_refl _, fun _ _ h _ _ _ => h⟩
theorem Fr.trans {G : Nat} {x y z : World} (h : Fr G x y) (k : Fr G y z) : Fr G x z := ⟨h.1.trans k.1, Nat.le_trans h.2.1 k.2.1, fun j o e n1 n2 n3 => k.2.2 j o (h.2.2 j o e n1 n2 n3) n1 n2 n3⟩
theorem Fr.below {G : Nat} {x y : World} (hb : Below x.heap.size x y) (hG : G ≤ x.heap.size) : Fr G x y := ⟨hb.mono hG, hb.size, fun k o e _ _ _ => (hb.block k (Array.getElem?_eq_some_iff.1 e).1).trans e⟩
theorem Fr.grown {G : Nat} {x y : World} {row : Option Nat} (hg : x.grownBy y row) (hG : G ≤ x.heap.size) (hr : ∀ r, row = some r → G ≤ r ∧ ∃ cs fz, x.heap[r]? = some (.cells cs 3 fz) ∨ x.heap[r]? = some (.cells cs 44 fz)) : Fr G x y :=
  ⟨(Below.refl _ _).grown hg hG (fun k e => (hr k e).1), hg.size, fun k o e _ n2 n3 => (hg.block k (Array.getElem?_eq_some_iff.1 e).1 (fun ek => by
    obtain ⟨-, cs, fz, h | h⟩ := hr k ek.symm
    · rw [e] at h; exact n2 cs fz (Option.some.inj h)
    · rw [e] at h; exact n3 cs fz (Option.some.inj h))).trans e⟩
theorem Fr.set {G : Nat} (x : World) (j : Nat) (u : Value) : Fr G x (x.setCell ⟨G, j, none⟩ u) :=
  ⟨(Below.refl _ _).setCell (p := ⟨G, j, none⟩) (Nat.le_refl _) _, by simp [World.setCell], fun k o e n1 _ _ => ((grown_set8 x ⟨G, j, none⟩ u).block k (Array.getElem?_eq_some_iff.1 e).1 (fun ek => n1 (Option.some.inj ek))).trans e⟩
theorem row_kind {x : World} {B : Nat} {e : TypeId} {k : Nat} {v : Value} {n : Nat} {xs : List Value} (h : x.ownsRow B e k v n xs) : ∀ r, v.ownBlock = some r → ∃ cs fz, x.heap[r]? = some (.cells cs e fz) := fun r hr => by
  obtain ⟨hl, ⟨hv, _⟩ | ⟨g', cap', cur, hv, hB, hh, _⟩⟩ := h
  · subst hv; cases hr
  · subst hv; cases hr; exact ⟨_, _, hh⟩
/-- The machine at block G. -/
structure MP (G : Nat) (s : St) (w1 x0 x : World) (va v : Value) : Prop where
  js : JS G s.vs s.ps w1 x va v
  ex : EX G s.la s.ag x
  fr : Fr G x0 x
theorem MP.calls {G : Nat} {s : St} {w1 x0 x y : World} {va v : Value} (h : MP G s w1 x0 x va v) (hb : Below x.heap.size x y) : MP G s w1 x0 y va v := ⟨h.js.calls hb, h.ex.step (hb.mono h.js.tb.sz), h.fr.trans (Fr.below hb (Nat.le_of_succ_le h.js.tb.sz))⟩
theorem MP.drew {G : Nat} {s : St} {w1 x0 x : World} {va v : Value} (h : MP G s w1 x0 x va v) : MP G s w1 x0 x.drew va v := ⟨h.js.drew, h.ex.drew, h.fr.trans ⟨(Below.refl _ _).drew, Nat.le_refl _, fun _ _ e _ _ _ => e⟩⟩
/-- A verb is laid. -/
theorem MP.pushV {G : Nat} {s : St} {w1 x0 x x' : World} {va va' v : Value} {verb : Int} (h : MP G s w1 x0 x va v)
    (a : Appd x x' (G + 1) 3 1 va va' (s.vs.length + 1) (s.vs.map iV ++ [iV verb])) : MP G ⟨s.vs ++ [verb], s.ps, s.la, s.ag⟩ w1 x0 (x'.setCell ⟨G, 0, none⟩ va') va' v :=
  ⟨h.js.pushV (news := [verb]) rfl a, (h.ex.step ((Below.refl _ _).grown a.grew h.js.tb.sz (ownsRow_ge h.js.rv))).low 0 (by omega) _,
    (h.fr.trans (Fr.grown a.grew (Nat.le_of_succ_le h.js.tb.sz) (fun r e => ⟨Nat.le_of_succ_le (ownsRow_ge h.js.rv r e), by obtain ⟨cs, fz, k⟩ := row_kind h.js.rv r e; exact ⟨cs, fz, .inl k⟩⟩))).trans (Fr.set _ _ _)⟩
/-- A point is laid. -/
theorem MP.pushP {G : Nat} {s : St} {w1 x0 x x' : World} {va v v' : Value} {p : Pnt} (h : MP G s w1 x0 x va v)
    (a : Appd x x' (G + 1) 44 2 v v' (s.ps.length + 1) (flatP s.ps ++ [.int .i64 p.1, .int .i64 p.2])) : MP G ⟨s.vs, s.ps ++ [p], s.la, s.ag⟩ w1 x0 (x'.setCell ⟨G, 1, none⟩ v') va v' :=
  ⟨h.js.pushP (news := [p]) rfl a, (h.ex.step ((Below.refl _ _).grown a.grew h.js.tb.sz (ownsRow_ge h.js.rp))).low 1 (by omega) _,
    (h.fr.trans (Fr.grown a.grew (Nat.le_of_succ_le h.js.tb.sz) (fun r e => ⟨Nat.le_of_succ_le (ownsRow_ge h.js.rp r e), by obtain ⟨cs, fz, k⟩ := row_kind h.js.rp r e; exact ⟨cs, fz, .inr k⟩⟩))).trans (Fr.set _ _ _)⟩
theorem MP.put2 {G : Nat} {s : St} {w1 x0 x : World} {va v : Value} (h : MP G s w1 x0 x va v) (n : Nat) : MP G ⟨s.vs, s.ps, n, s.ag⟩ w1 x0 (x.setCell ⟨G, 2, none⟩ (.int .i64 n)) va v := ⟨h.js.high 2 (by omega) _, h.ex.put2 n, h.fr.trans (Fr.set _ _ _)⟩
theorem MP.put3 {G : Nat} {s : St} {w1 x0 x : World} {va v : Value} (h : MP G s w1 x0 x va v) (z : Int) : MP G ⟨s.vs, s.ps, s.la, z⟩ w1 x0 (x.setCell ⟨G, 3, none⟩ (.int .i64 z)) va v := ⟨h.js.high 3 (by omega) _, h.ex.put3 z, h.fr.trans (Fr.set _ _ _)⟩

theorem sbegin_any {G : Nat} {s : St} {w1 x0 x : World} {va v : Value} (verb : Int) (h : MP G s w1 x0 x va v) (hv : verb = 1 ∨ verb = 2 ∨ verb = 3 ∨ verb = 4 ∨ verb = 5) (hl : s.vs.length ≤ 1048576) (hT : Tab7 w1) (hG : w1.heap.size = G) :
    Calls Tryd.prog 43 #[.pointer (some ⟨G, 0, none⟩), .int .i64 verb] x fun e y => e = .returned (.tuple #[]) ∧ ∃ va', MP G (begS s verb) w1 x0 y va' v := by
  obtain ⟨i0, ki, kz0, kz1, kz2⟩ := info_parts info_i
  obtain ⟨vs, ps, la, ag⟩ := s
  obtain ⟨T, hTk⟩ : ∃ T : Nat, takesV verb = T := ⟨(takesV verb).toNat, by rcases hv with e | e | e | e | e <;> rw [e] <;> decide⟩
  have hT3 : T ≤ 3 := by
    have : takesV verb ≤ 3 := by rcases hv with e | e | e | e | e <;> rw [e] <;> decide
    omega
  have HV := Lib.hid hv
  have HTB := Lib.hid hT
  have HTK := Lib.hid hTk
  dsimp only at hl
  have k0 := h.js.tb.c0
  have n0 := h.js.tb.f0
  have rv := h.js.rv
  have hsz := h.js.tb.sz
  have HM := Lib.hid h
  clear hv hT hTk
  go_enter Tryd.func43, Tryd.ntmps43
  go_upto_region 0 with fail
  iterate 25 (first | go_step | go_simp)
  refine wpList_append_full _ rfl _ _ rfl (G + 1) i0 _ 1 8 und_is und_is ki kz0 kz1 kz2 rfl (by omega) va vs.length (vs.map iV) (by rfl) (rv.alloc _) (some ⟨x.heap.size, 0, none⟩) 1 1 [.int .i64 verb] (by rfl) (by rfl) (fun j u hu => ⟨_, rfl, World.news_of_block (cs := #[.int .i64 verb]) (t := 3) (fr := (0, 0)) (heap_alloc_new x _) j u hu⟩) (by simp [Value.oneCell']) (by simp) (by simp [maxLen]; omega) (by omega) (by simp; omega) ?_
  intro a5 c5 w5 ap5
  have hal : MP G ⟨vs, ps, la, ag⟩ w1 x0 (x.alloc (.cells #[.int .i64 verb] 3)) va v := h.calls ((Below.refl _ _).alloc (Nat.le_refl _) _)
  have HM5 := Lib.hid (hal.pushV (verb := verb) ap5)
  have ky := hal.js.afterV ap5
  have m0 := ky.c0
  have g0 := ky.f0
  clear ap5 ky k0 n0 rv hsz hal h HM
  go_upto_region 1 with fail
  refine any_gen (fun z => MP G ⟨vs ++ [verb], ps, la, ag⟩ w1 x0 z (.slice a5 (vs.length + 1) c5) v) HM5.out ?_
  clear HM5 m0 g0
  rintro w6 hM
  have TK0 := q7takes_any verb w6 (HTB.out.step (hG ▸ hM.js.tb.bel))
  rw [HTK.out] at TK0
  have TK := Lib.hid TK0
  have HM := Lib.hid hM
  clear TK0 hM
  go_wp2_with fail
  refine (TK.out).mono ?_
  rintro e w7 ⟨rfl, h7⟩
  have hM := HM.out.calls h7
  have c2 := hM.ex.c2
  have f2 := hM.ex.f2
  have wr0 : IntKind.i64.wrap (2 * (T : Int)) = ((2 * T : Nat) : Int) := by rw [IntWalk.i64_in _ (by omega)]; omega
  have HM7 := Lib.hid (hM.put2 (2 * T))
  clear hM h7 TK HM
  go_upto_region 2 with fail
  refine any_gen (fun z => MP G ⟨vs ++ [verb], ps, 2 * T, ag⟩ w1 x0 z (.slice a5 (vs.length + 1) c5) v) (by first | exact HM7.out | (have := HM7.out; simpa using this)) ?_
  clear HM7 c2 f2 wr0
  rintro w8 hM
  have c3 := hM.ex.c3
  have f3 := hM.ex.f3
  have F := Lib.hid (show begS ⟨vs, ps, la, ag⟩ verb = ⟨vs ++ [verb], ps, 2 * T, agV verb⟩ by unfold begS; rw [HTK.out]; rfl)
  have HP := Lib.hid (hM.put3 (agV verb))
  clear hM
  rcases HV.out with rfl | rfl | rfl | rfl | rfl
  all_goals
    go_wp2
    go_end0
    exact ⟨rfl, _, by rw [F.out]; exact HP.out⟩
end Go.Proofs.YtjjklchfcklahaaDoor

/- The machine that takes a text's words one by one: number, and take. -/
namespace Go.Proofs.YtjjklchfcklahaaDoor
open Go.RowKit
set_option linter.unusedVariables false
set_option linter.unusedSimpArgs false
set_option maxHeartbeats 2000000
set_option maxRecDepth 100000

theorem heap_put {x : World} {T j : Nat} {cs : Array Value} {t : TypeId} (h : x.heap[T]? = some (.cells cs t (0, 0))) (v : Value) : (x.setCell ⟨T, j, none⟩ v).heap[T]? = some (.cells (cs.setIfInBounds j v) t (0, 0)) := by
  have hlt : T < x.heap.size := (Array.getElem?_eq_some_iff.1 h).1
  unfold World.setCell
  simp [Array.getElem?_modify, h]
theorem row_put {w : World} {B : Nat} {e : TypeId} {k g n cap m : Nat} {xs : List Value} (h : w.ownsRow B e k (.slice (some ⟨g, 0, none⟩) n cap) m xs) (j : Nat) (u : Value) :
    (w.setCell ⟨g, j, none⟩ u).ownsRow B e k (.slice (some ⟨g, 0, none⟩) n cap) m (xs.set j u) := by
  obtain ⟨hl, ⟨hv, _⟩ | ⟨g', cap', cur, hv, hB, hh, hn, hm, hs, ht⟩⟩ := h
  · cases hv
  · cases hv
    exact ⟨by simpa using hl, .inr ⟨g, cap, cur.setIfInBounds j u, rfl, hB, heap_put hh u, hn, hm, by simpa using hs, by rw [Array.toList_setIfInBounds, List.take_set, ht]⟩⟩
theorem flat_set (q : List Pnt) (a b y : Int) : (flatP (q ++ [(a, b)])).set (q.length * 2 + 1) (.int .i64 y) = flatP (q ++ [(a, y)]) := by
  have hl : (flatP q).length = q.length * 2 := flatP_length q
  rw [flat_snoc, flat_snoc, List.set_append, if_neg (by omega), hl, show q.length * 2 + 1 - q.length * 2 = 1 by omega]
  rfl
theorem row_cell2 {w : World} {B : Nat} {e : TypeId} {k g n cap m : Nat} {xs : List Value} (h : w.ownsRow B e k (.slice (some ⟨g, 0, none⟩) n cap) m xs) (j : Nat) (u : Value) (hj : xs[j]? = some u) : w.cell? ⟨g, j, none⟩ = some u ∧ w.frozen? ⟨g, j, none⟩ = false := by
  obtain ⟨hl, ⟨hv, _⟩ | ⟨g', cap', cur, hv, hB, hh, hn, hm, hs, ht⟩⟩ := h
  · cases hv
  · cases hv
    rw [← ht, List.getElem?_take] at hj
    split at hj
    · have h1 : cur[j]? = some u := by rw [← Array.getElem?_toList]; exact hj
      constructor
      · simp [World.cell?, hh, h1]
      · simp [World.frozen?, hh]
    · cases hj
/-- The last point's Y is laid. -/
theorem MP.putY {G : Nat} {vs : List Int} {q : List Pnt} {a b y : Int} {la : Nat} {ag : Int} {w1 x0 x : World} {va : Value} {g cap : Nat} (h : MP G ⟨vs, q ++ [(a, b)], la, ag⟩ w1 x0 x va (.slice (some ⟨g, 0, none⟩) (q.length + 1) cap)) :
    MP G ⟨vs, q ++ [(a, y)], la, ag⟩ w1 x0 (x.setCell ⟨g, q.length * 2 + 1, none⟩ (.int .i64 y)) va (.slice (some ⟨g, 0, none⟩) (q.length + 1) cap) := by
  have hge : G + 1 ≤ g := ownsRow_ge h.js.rp g rfl
  have hb : Below (G + 1) x (x.setCell ⟨g, q.length * 2 + 1, none⟩ (.int .i64 y)) := (Below.refl _ _).setCell (p := ⟨g, q.length * 2 + 1, none⟩) hge _
  have hp := row_put h.js.rp (q.length * 2 + 1) (.int .i64 y)
  dsimp only at hp
  rw [flat_set] at hp
  refine ⟨⟨h.js.tb.step hb, ownsRow_setCell_other h.js.rv (a := ⟨g, q.length * 2 + 1, none⟩) (fun e => h.js.ne _ e rfl) _, by simpa using hp, h.js.ne⟩, h.ex.step hb, h.fr.trans (Fr.grown (grown_set8 x ⟨g, q.length * 2 + 1, none⟩ (.int .i64 y)) (Nat.le_of_succ_le h.js.tb.sz) (fun r e => by cases e; obtain ⟨cs, fz, k⟩ := row_kind h.js.rp g rfl; exact ⟨Nat.le_of_succ_le hge, cs, fz, .inr k⟩))⟩

theorem snumber_any {G : Nat} {s : St} {w1 x0 x : World} {va v : Value} (t : ByteArray) (wd : List UInt8) (ht : t.data.toList = wd) (h : MP G s w1 x0 x va v) (h0 : 0 < s.la) (h6 : s.la ≤ 6) (hp : s.la % 2 = 1 → s.ps ≠ []) (hl : s.ps.length ≤ 1048576) (hs : t.size ≤ 1048576) :
    Calls Tryd.prog 41 #[.pointer (some ⟨G, 0, none⟩), .string t] x fun e y => (numS s wd = none ∧ e = .returned (.bool false) ∧ Below G w1 y ∧ Fr G x0 y) ∨ (∃ s', numS s wd = some s' ∧ e = .returned (.bool true) ∧ ∃ v', MP G s' w1 x0 y va v') := by
  obtain ⟨i1, hi, hz0, hz1, hz2⟩ := info_parts info_pt
  obtain ⟨vs, ps, la, ag⟩ := s
  dsimp only at h0 h6 hp hl
  obtain ⟨n, er, hV⟩ := parse_parts wd
  have PA0 := fun w => parse_any t w (by omega)
  simp only [ht, hV] at PA0
  have PA := Lib.hid PA0
  have HM := Lib.hid h
  have F := Lib.hid (show numS ⟨vs, ps, la, ag⟩ wd = if er = 0 then some ⟨vs, if la % 2 = 0 then ps ++ [(n, 0)] else setY ps n, la - 1, ag⟩ else none by
    unfold numS numV; rw [hV]
    show (match (if er = 0 then some n else none) with | none => none | some a => _) = _
    by_cases he : er = 0
    · rw [if_pos he, if_pos he]
    · rw [if_neg he, if_neg he])
  clear PA0 hV h ht
  by_cases he : er = 0
  rotate_left
  · have q1 : (er != 0) = true := by simpa using he
    have q2 : (er == 0) = false := by simpa using he
    have F2 := Lib.hid (show numS ⟨vs, ps, la, ag⟩ wd = none by rw [F.out, if_neg he])
    go_enter Tryd.func41, Tryd.ntmps41
    go_wp2_with fail
    refine (PA.out _).mono ?_
    rintro e w2 ⟨rfl, h2⟩
    have hb := (HM.out.calls h2).js.tb.bel
    have hfr := (HM.out.calls h2).fr
    go_wp2
    go_ret
    exact .inl ⟨F2.out, rfl, hb, hfr⟩
  subst he
  by_cases hev : la % 2 = 0
  · have F2 := Lib.hid (show numS ⟨vs, ps, la, ag⟩ wd = some ⟨vs, ps ++ [(n, 0)], la - 1, ag⟩ by rw [F.out, if_pos rfl, if_pos hev])
    have q2 : Int.tmod (la : Int) 2 = 0 := (show Int.tmod (la : Int) 2 = ((la % 2 : Nat) : Int) from rfl).trans (by rw [hev]; rfl)
    have q1 : ((Int.tmod (la : Int) 2) == 0) = true := by rw [q2]; rfl
    go_enter Tryd.func41, Tryd.ntmps41
    go_wp2_with fail
    refine (PA.out _).mono ?_
    rintro e w2 ⟨rfl, h2⟩
    have hM2 := HM.out.calls h2
    have c1 := hM2.js.tb.c1
    have f1 := hM2.js.tb.f1
    have c2 := hM2.ex.c2
    dsimp only at c2
    have rp := hM2.js.rp
    have hsz := hM2.js.tb.sz
    dsimp only at rp
    clear h2 PA HM
    go_upto_region 5 with fail
    iterate 28 (first | go_step | go_simp)
    refine wpList_append_full _ rfl _ _ rfl (G + 1) i1 _ 2 16 und_pt und_pt hi hz0 hz1 hz2 rfl (by omega) v ps.length (flatP ps) (by rfl) (rp.alloc _) (some ⟨w2.heap.size, 0, none⟩) 1 1 [.int .i64 n, .int .i64 0] (by rfl) (by rfl) (fun j u hu => ⟨_, rfl, World.news_of_block (cs := #[.int .i64 n, .int .i64 0]) (t := 44) (fr := (0, 0)) (heap_alloc_new w2 _) j u hu⟩) (by simp [Value.oneCell']) (by simp) (by simp [maxLen]; omega) (by omega) (by simp; omega) ?_
    intro a5 c5 w5 ap5
    have hal : MP G ⟨vs, ps, la, ag⟩ w1 x0 (w2.alloc (.cells #[.int .i64 n, .int .i64 0] 44)) va v := hM2.calls ((Below.refl _ _).alloc (Nat.le_refl _) _)
    have HM5 := Lib.hid (hal.pushP (p := (n, 0)) ap5)
    have ky := hal.js.afterP ap5
    have m0 := ky.c1
    have g0 := ky.f1
    clear ap5 ky c1 f1 c2 rp hsz hal hM2
    go_upto_region 7 with fail
    refine any_gen (fun z => MP G ⟨vs, ps ++ [(n, 0)], la, ag⟩ w1 x0 z va (.slice a5 (ps.length + 1) c5)) HM5.out ?_
    clear HM5 m0 g0
    rintro w6 hM
    have c2 := hM.ex.c2
    have f2 := hM.ex.f2
    dsimp only at c2
    have wr0 : IntKind.i64.wrap ((la : Int) - 1) = ((la - 1 : Nat) : Int) := by rw [IntWalk.i64_in _ (by omega)]; omega
    have HM7 := Lib.hid (hM.put2 (la - 1))
    clear hM
    go_wp2
    go_ret
    exact .inr ⟨_, F2.out, rfl, _, HM7.out⟩
  · have hev1 : la % 2 = 1 := by omega
    obtain ⟨q, ⟨a, b⟩, rfl⟩ : ∃ q p, ps = q ++ [p] := ⟨_, _, (List.dropLast_concat_getLast (hp hev1)).symm⟩
    have F2 := Lib.hid (show numS ⟨vs, q ++ [(a, b)], la, ag⟩ wd = some ⟨vs, q ++ [(a, n)], la - 1, ag⟩ by rw [F.out, if_pos rfl, if_neg hev, setY_snoc])
    have q2 : Int.tmod (la : Int) 2 = 1 := (show Int.tmod (la : Int) 2 = ((la % 2 : Nat) : Int) from rfl).trans (by rw [hev1]; rfl)
    have q1 : ((Int.tmod (la : Int) 2) == 0) = false := by rw [q2]; rfl
    go_enter Tryd.func41, Tryd.ntmps41
    go_wp2_with fail
    refine (PA.out _).mono ?_
    rintro e w2 ⟨rfl, h2⟩
    have hM2 := HM.out.calls h2
    obtain ⟨g, ⟨cap, hvv⟩, -, -⟩ : ∃ g, (∃ cap, v = .slice (some ⟨g, 0, none⟩) (q.length + 1) cap) ∧ G + 1 ≤ g ∧ g < w2.heap.size := by
      have := hM2.js.rp.form (by simp)
      simpa using this
    subst hvv
    have c1 := hM2.js.tb.c1
    have f1 := hM2.js.tb.f1
    have c2 := hM2.ex.c2
    dsimp only at c2
    obtain ⟨k, hk⟩ : ∃ k, q.length = k := ⟨_, rfl⟩
    have hpr := row_cell2 hM2.js.rp (q.length * 2 + 1) (.int .i64 b) (by
      dsimp only; rw [flat_snoc, List.getElem?_append_right (by rw [flatP_length]; omega), flatP_length, show q.length * 2 + 1 - q.length * 2 = 1 by omega]; rfl)
    rw [hk] at hpr c1
    obtain ⟨d1, d2⟩ := hpr
    have HM3 := Lib.hid (hM2.putY (y := n))
    rw [hk] at HM3
    have hkl : k ≤ 1048576 := by rw [← hk]; simp at hl; omega
    have w0 : IntKind.i64.wrap (((k + 1 : Nat) : Int) - 1) = (k : Int) := by rw [IntWalk.i64_in _ (by omega)]; omega
    have w00 : IntKind.i64.wrap ((k : Int) + 1 - 1) = (k : Int) := by rw [IntWalk.i64_in _ (by omega)]; omega
    have q3 : (0 : Int) ≤ (k : Int) := by omega
    have q4 : (k : Int) < (k : Int) + 1 := by omega
    have q5 : (k : Int) < ((k + 1 : Nat) : Int) := by omega
    clear h2 PA HM hM2
    go_wp2_with fail
    go_region
    all_goals
      refine any_gen (fun z => MP G ⟨vs, q ++ [(a, n)], la, ag⟩ w1 x0 z va (.slice (some ⟨g, 0, none⟩) (k + 1) cap)) HM3.out.drew ?_
      clear HM3 c1 f1 c2 d1 d2
      rintro w6 hM
      have c2 := hM.ex.c2
      have f2 := hM.ex.f2
      dsimp only at c2
      have wr0 : IntKind.i64.wrap ((la : Int) - 1) = ((la - 1 : Nat) : Int) := by rw [IntWalk.i64_in _ (by omega)]; omega
      have HM7 := Lib.hid (hM.put2 (la - 1))
      clear hM
      go_wp2
      go_ret
      exact .inr ⟨_, F2.out, rfl, _, HM7.out⟩

theorem stake_any {G : Nat} {s : St} {w1 x0 x : World} {va v : Value} {m : Nat} (t : ByteArray) (wd : List UInt8) (ht : t.data.toList = wd) (h : MP G s w1 x0 x va v) (hf : Fit m s) (hm : m ≤ 1048575) (hs : t.size ≤ 1048576) (hT : Tabs8 w1) (hG : w1.heap.size = G) :
    Calls Tryd.prog 23 #[.pointer (some ⟨G, 0, none⟩), .string t] x fun e y => (takeS s wd = none ∧ e = .returned (.bool false) ∧ Below G w1 y ∧ Fr G x0 y) ∨ (∃ s', takeS s wd = some s' ∧ e = .returned (.bool true) ∧ ∃ va' v', MP G s' w1 x0 y va' v') := by
  have hfv := hf.v
  have hfp := hf.p
  have hfl := hf.l
  have hfa := hf.a
  have hfh := hf.h
  have HF := Lib.hid hf
  have HM := Lib.hid h
  have HT := Lib.hid hT
  have c2 := h.ex.c2
  have c3 := h.ex.c3
  have f2 := h.ex.f2
  clear hf hT h
  by_cases hla : 0 < s.la
  · have q1 : decide ((s.la : Int) > 0) = true := by simp; omega
    have q2 : decide ((0 : Int) < (s.la : Int)) = true := by simp; omega
    have q3 : decide (0 < s.la) = true := by simp; omega
    have NB := Lib.hid (snumber_any t wd ht HM.out hla hfl hfh (by omega) hs)
    rw [← take_num hla] at NB
    clear ht
    go_enter Tryd.func23, Tryd.ntmps23
    go_wp2_with fail
    refine (NB.out).mono ?_
    rintro e w2 (⟨h1, rfl, h3⟩ | ⟨s', h1, rfl, v', h3⟩)
    · go_wp2
      go_ret
      exact .inl ⟨h1, rfl, h3⟩
    · go_wp2
      go_ret
      exact .inr ⟨s', h1, rfl, _, _, h3⟩
  · have hl0 : s.la = 0 := by omega
    have q1 : decide ((s.la : Int) > 0) = false := by simp; omega
    have q2 : decide ((0 : Int) < (s.la : Int)) = false := by simp; omega
    have q3 : decide (0 < s.la) = false := by simp; omega
    have VB0 := sverb_any t wd x ht (HT.out.2.2.step (hG ▸ HM.out.js.tb.bel))
    obtain ⟨lv, hlv⟩ : ∃ lv, letterV wd = lv := ⟨_, rfl⟩
    rw [hlv] at VB0
    have VB := Lib.hid VB0
    have HLV := Lib.hid hlv
    clear VB0
    by_cases hl : lv = 0
    · subst hl
      by_cases ha : s.ag = 0
      · have FT := Lib.hid (show takeS s wd = none by unfold takeS; rw [if_neg hla, HLV.out, if_neg (by simp), if_pos ha])
        rw [ha] at c3
        have hb := HM.out.js.tb.bel
        have hfr := HM.out.fr
        clear hlv ht
        go_enter Tryd.func23, Tryd.ntmps23
        go_wp2_with fail
        refine (VB.out).mono ?_
        rintro e w2 ⟨rfl, rfl⟩
        go_wp2
        go_ret
        exact .inl ⟨FT.out, rfl, hb, hfr⟩
      · have hv : s.ag = 1 ∨ s.ag = 2 ∨ s.ag = 3 ∨ s.ag = 4 ∨ s.ag = 5 := by omega
        have q4 : (s.ag == 0) = false := by simpa using ha
        have q5 : (s.ag != 0) = true := by simpa using ha
        obtain ⟨b1, b2, b3, b4, b5⟩ := beg_fit HF.out hv
        have hpos : 0 < (begS s s.ag).la := by
          unfold begS
          dsimp only
          rcases hfa with e | e | e | e
          · exact absurd e ha
          all_goals (rw [e]; decide)
        have BG := Lib.hid (sbegin_any s.ag HM.out hv (by omega) HT.out.1 hG)
        have FT := Lib.hid (show takeS s wd = numS (begS s s.ag) wd by unfold takeS; rw [if_neg hla, HLV.out, if_neg (by simp), if_neg ha])
        obtain ⟨s2, hs2⟩ : ∃ s2, begS s s.ag = s2 := ⟨_, rfl⟩
        rw [hs2] at b1 b2 b3 b4 b5 hpos BG FT
        have NB := Lib.hid (fun (x : World) (va v : Value) (h : MP G s2 w1 x0 x va v) => snumber_any t wd ht h hpos b3 (fun e => absurd e (by omega)) (by rw [b2]; omega) hs)
        clear hlv ht hv b1 b2 b3 b4 b5 hpos hs2
        go_enter Tryd.func23, Tryd.ntmps23
        go_wp2_with fail
        refine (VB.out).mono ?_
        rintro e w2 ⟨rfl, rfl⟩
        go_wp2_with fail
        refine (BG.out).mono ?_
        rintro e w3 ⟨rfl, va', hM3⟩
        go_wp2_with fail
        refine (NB.out _ _ _ hM3).mono ?_
        rintro e w2 (⟨h1, rfl, h3⟩ | ⟨s', h1, rfl, v', h3⟩)
        · go_wp2
          go_ret
          exact .inl ⟨FT.out.trans h1, rfl, h3⟩
        · go_wp2
          go_ret
          exact .inr ⟨s', FT.out.trans h1, rfl, _, _, h3⟩
    · have hv := letter_some (w := wd) (by rw [hlv]; exact hl)
      rw [hlv] at hv
      have q4 : (lv == 0) = false := by simpa using hl
      have q5 : (lv != 0) = true := by simpa using hl
      have BG := Lib.hid (sbegin_any lv HM.out hv (by omega) HT.out.1 hG)
      have FT := Lib.hid (show takeS s wd = some (begS s lv) by unfold takeS; rw [if_neg hla, HLV.out, if_pos hl])
      clear hlv ht hv
      go_enter Tryd.func23, Tryd.ntmps23
      go_wp2_with fail
      refine (VB.out).mono ?_
      rintro e w2 ⟨rfl, rfl⟩
      go_wp2_with fail
      refine (BG.out).mono ?_
      rintro e w3 ⟨rfl, va', hM3⟩
      go_wp2
      go_ret
      exact .inr ⟨_, FT.out, rfl, _, _, hM3⟩
end Go.Proofs.YtjjklchfcklahaaDoor

/- The program's own Parse: words into a machine, and what it has at the end. -/
namespace Go.Proofs.YtjjklchfcklahaaDoor
open Go.RowKit Go.Shelf
set_option linter.unusedVariables false
set_option linter.unusedSimpArgs false
set_option maxHeartbeats 4000000
set_option maxRecDepth 100000
attribute [local go_sem] Oper.semAt_some

theorem JS.grown {G : Nat} {vs : List Int} {ps : List Pnt} {w1 X Y : World} {va v : Value} (h : JS G vs ps w1 X va v) {row : Option Nat} (hg : X.grownBy Y row) (hr : ∀ r, row = some r → G ≤ r ∧ ∃ o : Obj, X.heap[r]? = some o ∧ o.isCells = false) : JS G vs ps w1 Y va v := by
  have hlt : G < X.heap.size := h.tb.sz
  have hG : some G ≠ row := fun e => by
    obtain ⟨_, o, ho, hc⟩ := hr G e.symm
    have := h.tb.c0
    simp only [World.cell?, ho] at this
    cases o <;> simp [Obj.isCells] at hc this
  have hb := hg.block G hlt hG
  have hrow : ∀ {e : TypeId} {k : Nat} {u : Value} {n : Nat} {xs : List Value}, X.ownsRow (G + 1) e k u n xs → Y.ownsRow (G + 1) e k u n xs := fun {e k u n xs} hx => hx.kept hg (by
    cases hu : u.ownBlock with
    | none => exact .inl rfl
    | some g => exact .inr (fun ek => by
        obtain ⟨cs, fz, hk⟩ := row_kind hx g hu
        obtain ⟨_, o, ho, hc⟩ := hr g ek.symm
        rw [hk] at ho
        cases ho
        cases hc))
  refine ⟨⟨?_, ?_, ?_, ?_, h.tb.bel.grown hg (Nat.le_of_lt hlt) (fun k e => (hr k e).1), Nat.le_trans h.tb.sz hg.size⟩, hrow h.rv, hrow h.rp, h.ne⟩
  · have := h.tb.c0; simpa only [World.cell?, hb] using this
  · have := h.tb.c1; simpa only [World.cell?, hb] using this
  · have := h.tb.f0; simpa only [World.frozen?, hb] using this
  · have := h.tb.f1; simpa only [World.frozen?, hb] using this
theorem EX.grown {G : Nat} {la ag : Int} {X Y : World} (h : EX G la ag X) {row : Option Nat} (hg : X.grownBy Y row) (hlt : G < X.heap.size) (hG : some G ≠ row) : EX G la ag Y := by
  have hb := hg.block G hlt hG
  exact ⟨by have := h.c2; simpa only [World.cell?, hb] using this, by have := h.c3; simpa only [World.cell?, hb] using this, by have := h.f2; simpa only [World.frozen?, hb] using this, by have := h.f3; simpa only [World.frozen?, hb] using this⟩
theorem MP.self {G : Nat} {s : St} {w1 x0 x : World} {va v : Value} (h : MP G s w1 x0 x va v) : MP G s w1 x x va v := ⟨h.js, h.ex, Fr.refl _ _⟩
theorem MP.grown {G : Nat} {s : St} {w1 X Y : World} {va v : Value} (h : MP G s w1 X X va v) {row : Option Nat} (hg : X.grownBy Y row) (hr : ∀ r, row = some r → G ≤ r ∧ ∃ o : Obj, X.heap[r]? = some o ∧ o.isCells = false) : MP G s w1 Y Y va v :=
  ⟨h.js.grown hg hr, h.ex.grown hg h.js.tb.sz (fun e => by
    obtain ⟨_, o, ho, hc⟩ := hr G e.symm
    have := h.js.tb.c0
    simp only [World.cell?, ho] at this
    cases o <;> simp [Obj.isCells] at hc this), Fr.refl _ _⟩
/-- A machine with these words taken lies at G. -/
def Took (G : Nat) (w1 : World) (L : Nat) (pre : List (Wrd L)) (W : World) : Prop := ∃ s va v, runS ⟨[], [], 0, 0⟩ (pre.map wrd) = .ok s ∧ MP G s w1 W W va v
theorem took_own (G : Nat) (w1 : World) (L B : Nat) (hB : G ≤ B) : OwnFrom B (Took G w1 L) := fun s X Y row hs hg hr => by
  obtain ⟨st, va, v, h1, h2⟩ := hs
  exact ⟨st, va, v, h1, h2.grown hg (fun r e => ⟨Nat.le_trans hB (hr r e).1, (hr r e).2⟩)⟩
/-- The four cells of the answer. -/
structure Four (H : Nat) (a b c d : Value) (W : World) : Prop where
  k0 : W.cell? ⟨H, 0, none⟩ = some a
  k1 : W.cell? ⟨H, 1, none⟩ = some b
  k2 : W.cell? ⟨H + 1, 0, none⟩ = some c
  k3 : W.cell? ⟨H + 1 + 1, 0, none⟩ = some d
theorem Four.set {H : Nat} {a b c d : Value} {W : World} (h : Four H a b c d W) (a' b' c' d' : Value) :
    Four H a' b' c' d' ((((W.setCell ⟨H, 0, none⟩ a').setCell ⟨H, 1, none⟩ b').setCell ⟨H + 1, 0, none⟩ c').setCell ⟨H + 1 + 1, 0, none⟩ d') := by
  have o : ∀ (X : World) (p q : Addr) (u v : Value), p ≠ q → X.cell? p = some v → (X.setCell q u).cell? p = some v := fun X p q u v hne hc => (World.cell?_setCell_other _ _ _ _ (fun e => hne (by first | exact e | exact e.symm))).trans hc
  refine ⟨?_, ?_, ?_, ?_⟩
  · exact o _ _ _ _ _ (by simp; try omega) (o _ _ _ _ _ (by simp; try omega) (o _ _ _ _ _ (by simp; try omega) (World.cell?_setCell_same _ _ _ h.k0)))
  · exact o _ _ _ _ _ (by simp; try omega) (o _ _ _ _ _ (by simp; try omega) (World.cell?_setCell_same _ _ _ (o _ _ _ _ _ (by simp; try omega) h.k1)))
  · exact o _ _ _ _ _ (by simp; try omega) (World.cell?_setCell_same _ _ _ (o _ _ _ _ _ (by simp; try omega) (o _ _ _ _ _ (by simp; try omega) h.k2)))
  · exact World.cell?_setCell_same _ _ _ (o _ _ _ _ _ (by simp; try omega) (o _ _ _ _ _ (by simp; try omega) (o _ _ _ _ _ (by simp; try omega) h.k3)))
theorem Four.grown {H : Nat} {a b c d : Value} {X Y : World} (h : Four H a b c d X) {row : Option Nat} (hg : X.grownBy Y row) (hr : ∀ r, row = some r → ∃ o : Obj, X.heap[r]? = some o ∧ o.isCells = false) : Four H a b c d Y :=
  ⟨cell_kept h.k0 hg hr, cell_kept h.k1 hg hr, cell_kept h.k2 hg hr, cell_kept h.k3 hg hr⟩
theorem fr_others {G : Nat} {x y : World} (h : Fr G x y) (hc : ∃ v, x.cell? ⟨G, 0, none⟩ = some v) : KeepsOthers x y := ⟨h.2.1, fun k o hk ho => h.2.2 k o hk (fun e => by
    subst e
    obtain ⟨v, hv⟩ := hc
    simp only [World.cell?, hk] at hv
    cases o <;> simp [Obj.isCells] at ho hv) (fun cs fz e => by subst e; cases ho) (fun cs fz e => by subst e; cases ho)⟩
theorem fr_box {G B : Nat} {x y : World} {t : TypeId} {u : Value} (h : Fr G x y) (hB : B ≠ G) (h1 : t ≠ 3) (h2 : t ≠ 44) (hb : Boxed x B t u) : Boxed y B t u :=
  h.2.2 B _ hb hB (fun cs fz e => by cases e; exact h1 rfl) (fun cs fz e => by cases e; exact h2 rfl)

theorem run_stop {L : Nat} {l : List UInt8} {pre : List (Wrd L)} {n : Nat} (h : pre.map wrd <+: wl l) (hr : runS ⟨[], [], 0, 0⟩ (pre.map wrd) = .error n) : runS ⟨[], [], 0, 0⟩ (wl l) = .error n := by
  obtain ⟨t, ht⟩ := h
  rw [← ht, run_app, hr]
theorem run_snoc (L : Nat) (pre : List (Wrd L)) (x : Wrd L) {s : St} (h : runS ⟨[], [], 0, 0⟩ (pre.map wrd) = .ok s) : runS ⟨[], [], 0, 0⟩ ((pre ++ [x]).map wrd) = match takeS s x.val.2.data.toList with
    | none => .error (L - x.val.1)
    | some s' => .ok s' := by
  rw [List.map_append, run_app, h]
  show runS s [wrd x] = _
  unfold wrd
  rw [runS]
  cases takeS s x.val.2.data.toList with
  | none => rfl
  | some s' => rfl
end Go.Proofs.YtjjklchfcklahaaDoor

/- The program's own Parse: the walk. -/
namespace Go.Proofs.YtjjklchfcklahaaDoor
open Go.RowKit Go.Shelf
set_option linter.unusedVariables false
set_option linter.unusedSimpArgs false
set_option maxHeartbeats 4000000
set_option maxRecDepth 100000
attribute [local go_sem] Oper.semAt_some

theorem sparse_in (n : Nat) (hn : 3 ≤ n) (s : ByteArray) (l : List UInt8) (w : World) (hT : Tabs8 w) (hs : s.data.toList = l) (hl : l.length ≤ 1048576) :
    CallsIn Fence.wide n Tryd.prog 12 #[.string s] w (Parsed w (parseR l)) := by
  have hz : l.length = s.size := by rw [← hs, Array.length_toList]; rfl
  have HS := Lib.hid hs
  have HZ := Lib.hid hz
  have HT := Lib.hid hT
  rw [hz] at hl
  clear hs hz hT
  have h1 : 1 ≤ n := by omega
  refine callsIn_of_wp_marks Tryd.func12 rfl trivial ?_ rfl
  simp only [Tryd.ntmps12, List.size_toArray, List.length_cons, List.length_nil, Nat.reduceAdd, Nat.reduceSub, Array.replicate_succ, Array.replicate_zero, List.push_toArray, List.append_toArray, List.nil_append, List.cons_append]
  gi_wp2_with (refine ⟨trivial, ?_⟩; gi_at_call 22; refine (words_in _ s _).mono ?_; rintro e w2 ⟨rfl, rfl⟩)
  obtain ⟨wA, hwA⟩ : ∃ wA, ((w.alloc (.cells #[.slice none 0 0, .slice none 0 0] 25)).alloc (.cells #[.int .i64 0] 3)).alloc (.cells #[.int .i64 0] 27) = wA := ⟨_, rfl⟩
  obtain ⟨H, hH⟩ : ∃ H, w.heap.size = H := ⟨_, rfl⟩
  have hbA : Below H w wA := by rw [← hwA, ← hH]; exact (((Below.refl _ w).alloc (Nat.le_refl _) _).alloc (by simp) _).alloc (by simp; omega) _
  have hzA : wA.heap.size = H + 1 + 1 + 1 := by rw [← hwA]; simp [hH]
  have hfA : Four H (.slice none 0 0) (.slice none 0 0) (.int .i64 0) (.int .i64 0) wA := by
    rw [← hwA, ← hH]
    exact ⟨by simp [go_sem], by simp [go_sem], by simp [go_sem], by simp [go_sem]⟩
  have hfzA : wA.frozen? ⟨H, 0, none⟩ = false ∧ wA.frozen? ⟨H, 1, none⟩ = false ∧ wA.frozen? ⟨H + 1, 0, none⟩ = false ∧ wA.frozen? ⟨H + 1 + 1, 0, none⟩ = false := by
    rw [← hwA, ← hH]
    exact ⟨by simp [go_sem], by simp [go_sem], by simp [go_sem], by simp [go_sem]⟩
  have hTA : Tabs8 wA := HT.out.step (hH ▸ hbA)
  rw [hwA]
  simp only [hH, hzA, World.size_alloc]
  clear hwA
  have bM : MP (H + 1 + 1 + 1) ⟨[], [], 0, 0⟩ wA (wA.alloc (.cells #[.slice none 0 0, .slice none 0 0, .int .i64 0, .int .i64 0] 53)) (wA.alloc (.cells #[.slice none 0 0, .slice none 0 0, .int .i64 0, .int .i64 0] 53)) (.slice none 0 0) (.slice none 0 0) :=
    ⟨⟨⟨by rw [← hzA]; simp [go_sem], by rw [← hzA]; simp [go_sem], by rw [← hzA]; simp [go_sem], by rw [← hzA]; simp [go_sem], (Below.refl _ _).alloc (by omega) _, by simp [hzA]⟩, World.ownsRow_nil _ _ _ _, World.ownsRow_nil _ _ _ _, fun g hg => by cases hg⟩,
      ⟨by rw [← hzA]; simp [go_sem], by rw [← hzA]; simp [go_sem], by rw [← hzA]; simp [go_sem], by rw [← hzA]; simp [go_sem]⟩, Fr.refl _ _⟩
  have bM2 := (bM.calls (y := (wA.alloc (.cells #[.slice none 0 0, .slice none 0 0, .int .i64 0, .int .i64 0] 53)).alloc (.cells #[.string s] 9)) ((Below.refl _ _).alloc (Nat.le_refl _) _)).self
  have bS := Boxed.new (wA.alloc (.cells #[.slice none 0 0, .slice none 0 0, .int .i64 0, .int .i64 0] 53)) 9 (.string s)
  simp only [World.size_alloc, hzA] at bS
  obtain ⟨W0, hW0⟩ : ∃ W0, (wA.alloc (.cells #[.slice none 0 0, .slice none 0 0, .int .i64 0, .int .i64 0] 53)).alloc (.cells #[.string s] 9) = W0 := ⟨_, rfl⟩
  have hsz : W0.heap.size = H + 1 + 1 + 1 + 1 + 1 := by rw [← hW0]; simp [hzA]
  rw [hW0] at bM2 bS ⊢
  clear hW0 bM
  have hmx : Tryd.prog.follows .mixedOrders = true := by kernel_rfl
  have KF := Lib.hid (show ∀ y, Below (H + 1 + 1 + 1) wA y → Four H (.slice none 0 0) (.slice none 0 0) (.int .i64 0) (.int .i64 0) y ∧ y.frozen? ⟨H, 0, none⟩ = false ∧ y.frozen? ⟨H, 1, none⟩ = false ∧ y.frozen? ⟨H + 1, 0, none⟩ = false ∧ y.frozen? ⟨H + 1 + 1, 0, none⟩ = false from fun y hb =>
    ⟨⟨(hb.cell (p := ⟨H, 0, none⟩) (by dsimp only; omega)).trans hfA.k0, (hb.cell (p := ⟨H, 1, none⟩) (by dsimp only; omega)).trans hfA.k1, (hb.cell (p := ⟨H + 1, 0, none⟩) (by dsimp only; omega)).trans hfA.k2, (hb.cell (p := ⟨H + 1 + 1, 0, none⟩) (by dsimp only; omega)).trans hfA.k3⟩,
      (hb.frozen (p := ⟨H, 0, none⟩) (by dsimp only; omega)).trans hfzA.1, (hb.frozen (p := ⟨H, 1, none⟩) (by dsimp only; omega)).trans hfzA.2.1, (hb.frozen (p := ⟨H + 1, 0, none⟩) (by dsimp only; omega)).trans hfzA.2.2.1, (hb.frozen (p := ⟨H + 1 + 1, 0, none⟩) (by dsimp only; omega)).trans hfzA.2.2.2⟩)
  refine wpIn_rangeFunc_ownH rfl (by omega) (gf := 39) (lb := #[.pointer (some ⟨H + 1 + 1 + 1 + 1, 0, none⟩)]) rfl trivial (enters_of Tryd.func39 (by kernel_rfl) rfl)
    (words_stops (n - 1) (H + 1 + 1 + 1 + 1) (H + 1 + 1 + 1) (by omega) s l HS.out (by rw [HZ.out]; exact hl) W0 (by omega) bS.cell) keepW_t (keepW_b (by omega)) (Below.refl _ _) (fun _ => rfl)
    (fun pre W => Took (H + 1 + 1 + 1) wA s.size pre W ∧ Boxed W (H + 1 + 1 + 1 + 1) 9 (.string s))
    (fun j pre W => (j = Code.ret ∧ ∃ m, runS ⟨[], [], 0, 0⟩ (pre.map wrd) = .error (s.size - m) ∧ m ≤ s.size ∧ Four H (.slice none 0 0) (.slice none 0 0) (.int .i64 (m : Nat)) (.int .i64 80) W) ∧ Below H w W)
    (OwnFrom.and (took_own _ _ _ _ (by omega)) (Own.from (boxed_own _ _ _) _))
    (fun j => OwnFrom.and (fun pre X Y row hs hg hr => by obtain ⟨h1, m, h2, h3, h4⟩ := hs; exact ⟨h1, m, h2, h3, h4.grown hg (fun r e => (hr r e).2)⟩) (ownFrom_below (by omega) (by omega)))
    ⟨⟨_, _, _, rfl, bM2⟩, bS⟩
    (fun x a' W => a' = { tmps := #[.string s, undef, .pointer (some ⟨H, 0, none⟩), .pointer (some ⟨H + 1, 0, none⟩), .pointer (some ⟨H + 1 + 1, 0, none⟩), .pointer (some ⟨H + 1 + 1 + 1, 0, none⟩), .int .i64 x.val.1, .string x.val.2, undef, .string s, .func (.func 39) #[] #[.pointer (some ⟨H + 1 + 1 + 1 + 1, 0, none⟩)], .int .i64 x.val.1, .string x.val.2, undef, undef, undef, undef, undef, undef, undef, undef, undef, undef, undef, undef, undef, undef, undef, undef, undef, undef, undef, undef], defers := [] })
    (fun x a' _ X Y row hs hg hr => hs)
    ?assign ?body ?done ?stop
  case assign =>
    rintro lp pre x W K hI hK
    gi_wp2
    exact hK _ _ (KeepsFrom.refl _ _) ⟨fun _ e => e, Below.refl _ _⟩ hI rfl
  case body =>
    rintro lp pre x a' W hlp ⟨r, hr⟩ ⟨⟨st, va, v, hrun, hM⟩, bS1⟩ rfl hlen
    have hfit : Fit pre.length st := by
      have := run_fit (pre.map wrd) 0 ⟨[], [], 0, 0⟩ st ⟨Nat.le_refl _, Nat.le_refl _, Nat.zero_le _, .inl rfl, fun e => by simp at e⟩ hrun
      rw [List.length_map, Nat.zero_add] at this
      exact this
    have h1' : 1 ≤ n - 1 - 1 := by omega
    have hx1 := x.property.1
    have hx2 := x.property.2
    have TK0 := stake_any x.val.2 _ rfl hM hfit (by omega) (by omega) hTA hzA
    obtain ⟨tk, htk⟩ : ∃ tk, takeS st x.val.2.data.toList = tk := ⟨_, rfl⟩
    have HSN := Lib.hid (run_snoc s.size pre x hrun)
    rw [htk] at TK0 HSN
    have hc0 := hM.js.tb.c0
    have HM := Lib.hid hM
    obtain ⟨Q, hQ⟩ : ∃ Q, pre ++ [x] = Q := ⟨_, rfl⟩
    rw [hQ] at HSN ⊢
    clear hfit htk hrun hM hQ hlen
    cases tk with
    | none =>
      have TK := Lib.hid (show Calls Tryd.prog 23 #[.pointer (some ⟨H + 1 + 1 + 1, 0, none⟩), .string x.val.2] W fun e y => e = .returned (.bool false) ∧ Below (H + 1 + 1 + 1) wA y ∧ Fr (H + 1 + 1 + 1) W y from TK0.mono (by
        rintro e y (⟨_, h2, h3⟩ | ⟨s', h1, _⟩)
        · exact ⟨h2, h3⟩
        · cases h1))
      clear TK0
      gi_wp2_with (refine ⟨trivial, ?_⟩; gi_at_call 23; refine (CallsIn.inRound lp (callsIn_wide.2 TK.out)).mono ?_; rintro e w3 ⟨rfl, hb3, hf3⟩; obtain ⟨h4, y0, y1, y2, y3⟩ := KF.out _ hb3; obtain ⟨k0, k1, k2, k3⟩ := h4)
      exact ⟨(((((fr_others hf3 ⟨_, hc0⟩).trans (KeepsOthers.setCell _ _ _)).trans (KeepsOthers.setCell _ _ _)).trans (KeepsOthers.setCell _ _ _)).trans (KeepsOthers.setCell _ _ _)).from _,
        ⟨rfl, x.val.1, HSN.out, hx1, (Four.mk k0 k1 k2 k3).set _ _ _ _⟩, ((((hbA.trans (hb3.mono (by omega))).setCell (p := ⟨H, 0, none⟩) (Nat.le_refl _) _).setCell (p := ⟨H, 1, none⟩) (Nat.le_refl _) _).setCell (p := ⟨H + 1, 0, none⟩) (by (try dsimp only); omega) _).setCell (p := ⟨H + 1 + 1, 0, none⟩) (by (try dsimp only); omega) _⟩
    | some s' =>
      have TK := Lib.hid (show Calls Tryd.prog 23 #[.pointer (some ⟨H + 1 + 1 + 1, 0, none⟩), .string x.val.2] W fun e y => e = .returned (.bool true) ∧ ∃ va' v', MP (H + 1 + 1 + 1) s' wA W y va' v' from TK0.mono (by
        rintro e y (⟨h1, _⟩ | ⟨s2, h1, h2, h3⟩)
        · cases h1
        · cases h1; exact ⟨h2, h3⟩))
      clear TK0
      gi_wp2_with (refine ⟨trivial, ?_⟩; gi_at_call 23; refine (CallsIn.inRound lp (callsIn_wide.2 TK.out)).mono ?_; rintro e w3 ⟨rfl, va', v', hM3⟩)
      have bS3 := fr_box hM3.fr (by omega) (by decide) (by decide) bS1
      exact ⟨(fr_others hM3.fr ⟨_, hc0⟩).from _, ⟨fun u e => by have := bS1.cell; rw [this] at e; cases e; exact bS3.cell, hM3.fr.1⟩, ⟨⟨s', _, _, HSN.out, hM3.self⟩, bS3⟩⟩
  case done =>
    rintro D zs W hD hS ⟨⟨st, va, v, hrun, hM⟩, bS1⟩ hK
    rw [hS] at hrun
    have PR := Lib.hid (parseR_run l)
    rw [hrun] at PR
    dsimp only at PR
    rw [HZ.out] at PR
    have hfit : Fit s.size st := by
      have h1 := run_fit (wl l) 0 ⟨[], [], 0, 0⟩ st ⟨Nat.le_refl _, Nat.le_refl _, Nat.zero_le _, .inl rfl, fun e => by simp at e⟩ hrun
      have h2 := wl_len _ l (Nat.le_refl _)
      rw [HZ.out] at h2
      have h3 := h1.v; have h4 := h1.p
      exact ⟨by omega, by omega, h1.l, h1.a, h1.h⟩
    have hfv := hfit.v
    have hfp := hfit.p
    have c2 := hM.ex.c2
    obtain ⟨h4, y0, y1, y2, y3⟩ := KF.out _ hM.js.tb.bel
    obtain ⟨k0, k1, k2, k3⟩ := h4
    clear hrun hS hfit
    by_cases hla : 0 < st.la
    · have q1 : decide ((st.la : Int) > 0) = true := by simp; omega
      have q2 : decide ((0 : Int) < (st.la : Int)) = true := by simp; omega
      have q3 : decide (0 < st.la) = true := by simp; omega
      have PR2 := Lib.hid (PR.out.trans (if_pos hla))
      have hbe := hM.js.tb.bel
      clear PR
      gi_wp2
      have hK' := ((((KeepsOthers.setCell W ⟨H, 0, none⟩ (.slice none 0 0)).trans (KeepsOthers.setCell _ ⟨H, 1, none⟩ (.slice none 0 0))).trans (KeepsOthers.setCell _ ⟨H + 1, 0, none⟩ (.int .i64 (s.size : Nat)))).trans (KeepsOthers.setCell _ ⟨H + 1 + 1, 0, none⟩ (.int .i64 80))).same D _ hK rfl
      refine ⟨by simp, .inl ⟨_, _, rfl, run_takeDeferred hK', ?_⟩⟩
      obtain ⟨m0, m1, m2, m3⟩ := ((Four.mk k0 k1 k2 k3).set (.slice none 0 0) (.slice none 0 0) (.int .i64 (s.size : Nat)) (.int .i64 80)).grown (grownBy_putObj' _ D (.deferred none)) (fun r e => by cases e; exact ⟨_, hK', rfl⟩)
      refine ⟨.tuple #[PathA none 0 0 none 0 0, .int .i64 (s.size : Nat), .int .i64 80], ?_, ?_⟩
      · simp [results, Tryd.f12, go_sem, m0, m1, m2, m3]
      · rw [PR2.out]
        exact ⟨none, none, 0, 0, rfl, fun h => by simp at h, fun h => by simp at h, Nat.le_refl _, by
          rw [hH]
          exact (((((hbA.trans (hbe.mono (by omega))).setCell (p := ⟨H, 0, none⟩) (Nat.le_refl _) _).setCell (p := ⟨H, 1, none⟩) (Nat.le_refl _) _).setCell (p := ⟨H + 1, 0, none⟩) (by (try dsimp only); omega) _).setCell (p := ⟨H + 1 + 1, 0, none⟩) (by (try dsimp only); omega) _).trans (belowK_b (w := W0) (by omega) _ D _ _ hD hK' rfl rfl)⟩
    · have q1 : decide ((st.la : Int) > 0) = false := by simp; omega
      have q2 : decide ((0 : Int) < (st.la : Int)) = false := by simp; omega
      have q3 : decide (0 < st.la) = false := by simp; omega
      have PR2 := Lib.hid (PR.out.trans (if_neg hla))
      have hla0 : st.la = 0 := by omega
      obtain ⟨vs, ps, la, ag⟩ := st
      dsimp only at hla0 hla hfv hfp q1 q2 q3 PR2 c2
      subst hla0
      obtain ⟨A1, e1, hva, hl1, hV1⟩ := vals_of_row hM.js.rv
      obtain ⟨A2, e2, hvb, hl2, hC2, -⟩ := cor_of_row hM.js.rp
      rw [List.length_map] at hva
      subst hva
      subst hvb
      obtain ⟨E, hE⟩ : ∃ E, pathE vs ps = E := ⟨_, rfl⟩
      have CK0 := q7check_any A1 A2 e1 e2 vs ps W (hTA.1.step (hzA ▸ hM.js.tb.bel)) hV1 hC2 (by omega) (by omega)
      rw [hE] at CK0 PR2
      have CK := Lib.hid CK0
      have HNC := Lib.hid (row_cap hM.js.rp)
      have HMM := Lib.hid hM
      have d0 := hM.js.tb.c0
      have d1 := hM.js.tb.c1
      have hDlt : D < W.heap.size := (Array.getElem?_eq_some_iff.1 hK).1
      clear PR CK0 hE hV1 hC2 hl1 hl2 hM k0 k1 k2 k3 y0 y1 y2 y3 bS1
      by_cases hE0 : E = 0
      · subst hE0
        have PR3 := Lib.hid (PR2.out.trans (if_pos rfl))
        clear PR2
        gi_wp2_with (refine ⟨trivial, ?_⟩; gi_at_call 16; refine (callsIn_wide.2 CK.out).mono ?_; rintro e w3 ⟨rfl, hb3⟩; have hM3 := HMM.out.calls hb3; have hK3 := (hb3.block D hDlt).trans hK; have n0 := hM3.js.tb.c0; have n1 := hM3.js.tb.c1; obtain ⟨h4, y0, y1, y2, y3⟩ := KF.out _ hM3.js.tb.bel; obtain ⟨k0, k1, k2, k3⟩ := h4; have HM3 := Lib.hid hM3; clear hM3)
        have hbe := HM3.out.js.tb.bel
        have hK' := ((((KeepsOthers.setCell w3 ⟨H, 0, none⟩ (.slice A1 vs.length e1)).trans (KeepsOthers.setCell _ ⟨H, 1, none⟩ (.slice A2 ps.length e2))).trans (KeepsOthers.setCell _ ⟨H + 1, 0, none⟩ (.int .i64 0))).trans (KeepsOthers.setCell _ ⟨H + 1 + 1, 0, none⟩ (.int .i64 0))).same D _ hK3 rfl
        refine ⟨by simp, .inl ⟨_, _, rfl, run_takeDeferred hK', ?_⟩⟩
        obtain ⟨m0, m1, m2, m3⟩ := ((Four.mk k0 k1 k2 k3).set (.slice A1 vs.length e1) (.slice A2 ps.length e2) (.int .i64 0) (.int .i64 0)).grown (grownBy_putObj' _ D (.deferred none)) (fun r e => by cases e; exact ⟨_, hK', rfl⟩)
        refine ⟨.tuple #[PathA A1 vs.length e1 A2 ps.length e2, .int .i64 0, .int .i64 0], ?_, ?_⟩
        · simp [results, Tryd.f12, go_sem, m0, m1, m2, m3]
        · rw [PR3.out]
          have rvF := ownsRow_putObj (ownsRow_setCell_below (ownsRow_setCell_below (ownsRow_setCell_below (ownsRow_setCell_below HM3.out.js.rv (a := ⟨H, 0, none⟩) (by (try dsimp only); omega) (.slice A1 vs.length e1)) (a := ⟨H, 1, none⟩) (by (try dsimp only); omega) (.slice A2 ps.length e2)) (a := ⟨H + 1, 0, none⟩) (by (try dsimp only); omega) (.int .i64 0)) (a := ⟨H + 1 + 1, 0, none⟩) (by (try dsimp only); omega) (.int .i64 0)) (.deferred none) hK' rfl
          have rpF := ownsRow_putObj (ownsRow_setCell_below (ownsRow_setCell_below (ownsRow_setCell_below (ownsRow_setCell_below HM3.out.js.rp (a := ⟨H, 0, none⟩) (by (try dsimp only); omega) (.slice A1 vs.length e1)) (a := ⟨H, 1, none⟩) (by (try dsimp only); omega) (.slice A2 ps.length e2)) (a := ⟨H + 1, 0, none⟩) (by (try dsimp only); omega) (.int .i64 0)) (a := ⟨H + 1 + 1, 0, none⟩) (by (try dsimp only); omega) (.int .i64 0)) (.deferred none) hK' rfl
          obtain ⟨A1', e1', hv1, -, hV1⟩ := vals_of_row rvF
          obtain ⟨A2', e2', hv2, -, hC2, -⟩ := cor_of_row rpF
          rw [List.length_map] at hv1
          dsimp only at hv1 hv2
          cases hv1
          cases hv2
          exact ⟨A1, A2, e1, e2, rfl, hV1, hC2, HNC.out, by
            rw [hH]
            exact (((((hbA.trans (hbe.mono (by omega))).setCell (p := ⟨H, 0, none⟩) (Nat.le_refl _) _).setCell (p := ⟨H, 1, none⟩) (Nat.le_refl _) _).setCell (p := ⟨H + 1, 0, none⟩) (by (try dsimp only); omega) _).setCell (p := ⟨H + 1 + 1, 0, none⟩) (by (try dsimp only); omega) _).trans (belowK_b (w := W0) (by omega) _ D _ _ hD hK' rfl rfl)⟩
      · have PR3 := Lib.hid (PR2.out.trans (if_neg hE0))
        have q4 : (E != 0) = true := by simpa using hE0
        have q5 : (E == 0) = false := by simpa using hE0
        clear PR2
        gi_wp2_with (refine ⟨trivial, ?_⟩; gi_at_call 16; refine (callsIn_wide.2 CK.out).mono ?_; rintro e w3 ⟨rfl, hb3⟩; have hM3 := HMM.out.calls hb3; have hK3 := (hb3.block D hDlt).trans hK; obtain ⟨h4, y0, y1, y2, y3⟩ := KF.out _ hM3.js.tb.bel; obtain ⟨k0, k1, k2, k3⟩ := h4; have HM3 := Lib.hid hM3; clear hM3)
        have hbe := HM3.out.js.tb.bel
        have hK' := ((((KeepsOthers.setCell w3 ⟨H, 0, none⟩ (.slice none 0 0)).trans (KeepsOthers.setCell _ ⟨H, 1, none⟩ (.slice none 0 0))).trans (KeepsOthers.setCell _ ⟨H + 1, 0, none⟩ (.int .i64 0))).trans (KeepsOthers.setCell _ ⟨H + 1 + 1, 0, none⟩ (.int .i64 E))).same D _ hK3 rfl
        refine ⟨by simp, .inl ⟨_, _, rfl, run_takeDeferred hK', ?_⟩⟩
        obtain ⟨m0, m1, m2, m3⟩ := ((Four.mk k0 k1 k2 k3).set (.slice none 0 0) (.slice none 0 0) (.int .i64 0) (.int .i64 E)).grown (grownBy_putObj' _ D (.deferred none)) (fun r e => by cases e; exact ⟨_, hK', rfl⟩)
        refine ⟨.tuple #[PathA none 0 0 none 0 0, .int .i64 0, .int .i64 E], ?_, ?_⟩
        · simp [results, Tryd.f12, go_sem, m0, m1, m2, m3]
        · rw [PR3.out]
          exact ⟨none, none, 0, 0, rfl, fun h => by simp at h, fun h => by simp at h, Nat.le_refl _, by
            rw [hH]
            exact (((((hbA.trans (hbe.mono (by omega))).setCell (p := ⟨H, 0, none⟩) (Nat.le_refl _) _).setCell (p := ⟨H, 1, none⟩) (Nat.le_refl _) _).setCell (p := ⟨H + 1, 0, none⟩) (by (try dsimp only); omega) _).setCell (p := ⟨H + 1 + 1, 0, none⟩) (by (try dsimp only); omega) _).trans (belowK_b (w := W0) (by omega) _ D _ _ hD hK' rfl rfl)⟩
  case stop =>
    rintro D j pre W hD hpre ⟨⟨rfl, m, hr, hm, h4⟩, hB1⟩ hK
    have PR := Lib.hid (parseR_run l)
    rw [run_stop hpre hr] at PR
    dsimp only at PR
    rw [HZ.out, show s.size - (s.size - m) = m by omega] at PR
    gi_wp2
    refine ⟨by simp, .inl ⟨_, _, rfl, run_takeDeferred hK, ?_⟩⟩
    obtain ⟨m0, m1, m2, m3⟩ := h4.grown (grownBy_putObj' _ D (.deferred none)) (fun r e => by cases e; exact ⟨_, hK, rfl⟩)
    refine ⟨.tuple #[PathA none 0 0 none 0 0, .int .i64 (m : Nat), .int .i64 80], ?_, ?_⟩
    · simp [results, Tryd.f12, go_sem, m0, m1, m2, m3]
    · rw [PR.out]
      exact ⟨none, none, 0, 0, rfl, fun h => by simp at h, fun h => by simp at h, Nat.le_refl _, by rw [hH]; exact hB1.trans (belowK_b (w := W0) (by omega) W D _ _ hD hK rfl rfl)⟩
theorem sparse_any (s : ByteArray) (l : List UInt8) (w : World) (hT : Tabs8 w) (hs : s.data.toList = l) (hl : l.length ≤ 1048576) :
    Calls Tryd.prog 12 #[.string s] w (Parsed w (parseR l)) :=
  callsIn_wide.1 (sparse_in 3 (by omega) s l w hT hs hl)
end Go.Proofs.YtjjklchfcklahaaDoor
