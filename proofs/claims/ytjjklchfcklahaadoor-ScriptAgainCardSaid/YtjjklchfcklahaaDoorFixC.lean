/- What the program's own reader of numbers does: more, skip, digit, pixels, parts. -/
import Derived.Test.YtjjklchfcklahaaDoorScriptNum
import Derived.WalkKit
import Derived.WalkLawsBesides
import Derived.WalkSmall
import Derived.Lib.Hide
namespace Go.Proofs.YtjjklchfcklahaaDoor
open Go.RowKit
set_option linter.unusedVariables false
set_option linter.unusedSimpArgs false
set_option maxHeartbeats 2000000

/-- A reader at block p that has t before it. -/
structure At (p : Nat) (t : ByteArray) (x : World) : Prop where
  c : x.cell? ⟨p, 0, none⟩ = some (.string t)
  f : x.frozen? ⟨p, 0, none⟩ = false
  g : p < x.heap.size
theorem At.put {p : Nat} {t : ByteArray} {x : World} (h : At p t x) (t' : ByteArray) : At p t' (x.setCell ⟨p, 0, none⟩ (.string t')) :=
  ⟨World.cell?_setCell_same _ _ _ h.c, by rw [World.frozen?_setCell]; exact h.f, by simpa [World.setCell] using h.g⟩
theorem At.drew {p : Nat} {t : ByteArray} {x : World} (h : At p t x) : At p t x.drew := ⟨h.c, h.f, h.g⟩
theorem put_below {p : Nat} {x : World} (v : Value) : Below p x (x.setCell ⟨p, 0, none⟩ v) := Below.setCell (Below.refl p x) (p := ⟨p, 0, none⟩) (Nat.le_refl p) v

/-- What is raised where a text is no number. -/
def PC : List PanicEntry := [{ v := .iface 27 (.int .i64 30), recovered := false }]
/-- Whether a digit is next. -/
def moreL : List UInt8 → Bool
  | [] => false
  | c :: _ => digB c.toNat

theorem more_any (p : Nat) (t : ByteArray) (w : World) (h : At p t w) :
    Calls Tryd.prog 92 #[.pointer (some ⟨p, 0, none⟩)] w fun e w' => e = .returned (.bool (moreL t.data.toList)) ∧ w' = w := by
  have hc := h.c
  have hf := h.f
  by_cases h0 : 0 < t.size
  · have f1 := full_empty h0
    have f2 := full_ne h0
    obtain ⟨c, hcc⟩ : ∃ c : Nat, t[0].toNat = c := ⟨_, rfl⟩
    have HM : moreL t.data.toList = digB c := by rw [cons_of t h0, ← hcc]; rfl
    rw [HM]
    clear HM
    by_cases h1 : 48 ≤ c
    · by_cases h2 : c ≤ 57
      · have q : digB c = true := by unfold digB; simp; omega
        have q1 : decide (48 ≤ (c : Int)) = true := by simp; omega
        have q2 : decide ((c : Int) ≤ 57) = true := by simp; omega
        have q3 : decide (48 ≤ c) = true := by simp; omega
        have q4 : decide (c ≤ 57) = true := by simp; omega
        rw [q]
        go_enter Tryd.func92, Tryd.ntmps92
        go_wp2
        go_ret
        exact ⟨rfl, rfl⟩
      · have q : digB c = false := by unfold digB; simp; omega
        have q1 : decide (48 ≤ (c : Int)) = true := by simp; omega
        have q2 : decide ((c : Int) ≤ 57) = false := by simp; omega
        have q3 : decide (48 ≤ c) = true := by simp; omega
        have q4 : decide (c ≤ 57) = false := by simp; omega
        rw [q]
        go_enter Tryd.func92, Tryd.ntmps92
        go_wp2
        go_ret
        exact ⟨rfl, rfl⟩
    · have q : digB c = false := by unfold digB; simp; omega
      have q1 : decide (48 ≤ (c : Int)) = false := by simp; omega
      have q3 : decide (48 ≤ c) = false := by simp; omega
      rw [q]
      go_enter Tryd.func92, Tryd.ntmps92
      go_wp2
      go_ret
      exact ⟨rfl, rfl⟩
  · have f1 := nil_of' h0
    have HM : moreL t.data.toList = false := by rw [nil_of h0]; rfl
    rw [HM]
    go_enter Tryd.func92, Tryd.ntmps92
    go_wp2
    go_ret
    exact ⟨rfl, rfl⟩

theorem skip_no (p : Nat) (t : ByteArray) (k : Nat) (w : World) (h : At p t w) (hk : k ≤ 255) (hn : t.data.toList.head? ≠ some (UInt8.ofNat k)) :
    Calls Tryd.prog 81 #[.pointer (some ⟨p, 0, none⟩), .int .u8 k] w fun e w' => e = .returned (.bool false) ∧ w' = w := by
  have hc := h.c
  have hf := h.f
  by_cases h0 : 0 < t.size
  · have f1 := full_empty h0
    have f2 := full_ne h0
    obtain ⟨c, hcc⟩ : ∃ c : Nat, t[0].toNat = c := ⟨_, rfl⟩
    have hck : c ≠ k := by
      intro g
      apply hn
      rw [cons_of t h0]
      show some t[0] = some (UInt8.ofNat k)
      rw [← g, ← hcc, UInt8.ofNat_toNat]
    have q1 : ((c : Int) == (k : Int)) = false := by simp; omega
    have q2 : ((c : Int) != (k : Int)) = true := by simp; omega
    have q3 : (c == k) = false := by simp; omega
    have q4 : (c != k) = true := by simp; omega
    clear hn
    go_enter Tryd.func81, Tryd.ntmps81
    go_wp2
    go_ret
    exact ⟨rfl, rfl⟩
  · have f1 := nil_of' h0
    go_enter Tryd.func81, Tryd.ntmps81
    go_wp2
    go_ret
    exact ⟨rfl, rfl⟩
theorem skip_yes (p : Nat) (t : ByteArray) (k : Nat) (w : World) (h : At p t w) (hk : k ≤ 255) (hn : t.data.toList.head? = some (UInt8.ofNat k)) :
    Calls Tryd.prog 81 #[.pointer (some ⟨p, 0, none⟩), .int .u8 k] w fun e w' => e = .returned (.bool true) ∧ ∃ t', t'.data.toList = t.data.toList.tail ∧ At p t' w' ∧ Below p w w' := by
  have hc := h.c
  have hf := h.f
  have h0 : 0 < t.size := by
    by_cases g : 0 < t.size
    · exact g
    · rw [nil_of g] at hn; cases hn
  have f1 := full_empty h0
  have f2 := full_ne h0
  obtain ⟨c, hcc⟩ : ∃ c : Nat, t[0].toNat = c := ⟨_, rfl⟩
  have hck : c = k := by
    rw [cons_of t h0] at hn
    have e : t[0] = UInt8.ofNat k := Option.some.inj hn
    rw [← hcc, e]
    simp; omega
  have q1 : ((c : Int) == (k : Int)) = true := by simp; omega
  have q2 : ((c : Int) != (k : Int)) = false := by simp; omega
  have q3 : (c == k) = true := by simp; omega
  have q4 : (c != k) = false := by simp; omega
  obtain ⟨t', ht'⟩ : ∃ t', t.extract 1 t.size = t' := ⟨_, rfl⟩
  have HT := Lib.hid (show t'.data.toList = t.data.toList.tail by rw [← ht', extract_list])
  have h1 : (1 : Nat) ≤ t.size := h0
  clear hn hck
  go_enter Tryd.func81, Tryd.ntmps81
  go_wp2
  go_ret
  exact ⟨rfl, t', HT.out, h.put t', put_below _⟩

theorem digit_no (p : Nat) (t : ByteArray) (w : World) (h : At p t w) (hm : moreL t.data.toList = false) :
    Calls Tryd.prog 91 #[.pointer (some ⟨p, 0, none⟩)] w fun e w' => e = .panicked PC ∧ w' = w := by
  have HM := Lib.hid hm
  clear hm
  go_enter Tryd.func91, Tryd.ntmps91
  go_wp2_with (go_at_call 92; refine (more_any p t _ h).mono ?_; rintro e w' ⟨rfl, rfl⟩; rw [HM.out])
  exact ⟨rfl, rfl, rfl⟩
theorem digit_yes (p : Nat) (t : ByteArray) (c : UInt8) (l : List UInt8) (w : World) (h : At p t w) (hl : t.data.toList = c :: l) (hd : digB (c.toNat : Int) = true) :
    Calls Tryd.prog 91 #[.pointer (some ⟨p, 0, none⟩)] w fun e w' => e = .returned (.int .i64 (dg c)) ∧ ∃ t', t'.data.toList = l ∧ At p t' w' ∧ Below p w w' := by
  have hc := h.c
  have hf := h.f
  have h0 : 0 < t.size := by
    by_cases g : 0 < t.size
    · exact g
    · rw [nil_of g] at hl; cases hl
  have hb := dg_bd hd
  have f1 := full_empty h0
  have f2 := full_ne h0
  have HM := Lib.hid (show moreL t.data.toList = true by rw [hl]; exact hd)
  obtain ⟨n, hcc⟩ : ∃ n : Nat, t[0].toNat = n := ⟨_, rfl⟩
  have hck : (n : Int) - 48 = dg c := by
    rw [cons_of t h0] at hl
    rw [← hcc, (List.cons.inj hl).1]; rfl
  obtain ⟨d, hd2⟩ : ∃ d : Int, dg c = d := ⟨_, rfl⟩
  rw [hd2] at hck hb ⊢
  have e1 : IntKind.u8.wrap ((n : Int) - 48) = d := by rw [hck, IntKind.wrap_u8]; omega
  have e2 : IntKind.i64.wrap d = d := IntWalk.i64_in _ (by omega)
  obtain ⟨t', ht'⟩ : ∃ t', t.extract 1 t.size = t' := ⟨_, rfl⟩
  have HT := Lib.hid (show t'.data.toList = l by rw [← ht', extract_list, hl]; rfl)
  have h1 : (1 : Nat) ≤ t.size := h0
  clear hl hd hd2 hck
  go_enter Tryd.func91, Tryd.ntmps91
  go_wp2_with (go_at_call 92; refine (more_any p t _ h).mono ?_; rintro e w' ⟨rfl, rfl⟩; rw [HM.out])
  go_wp2
  go_ret
  exact ⟨rfl, t', HT.out, h.put t', put_below _⟩

/-- How much of the text is left, by the reader's cell. -/
def leftOf (p : Nat) (x : World) : Nat := match x.cell? ⟨p, 0, none⟩ with
  | some v => strLen v
  | none => 0
theorem leftOf_at {p : Nat} {t : ByteArray} {x : World} (h : At p t x) : leftOf p x = t.data.toList.length := by
  unfold leftOf; rw [h.c, Array.length_toList]; rfl
theorem more_cases (t : ByteArray) : (∃ c l, t.data.toList = c :: l ∧ digB (c.toNat : Int) = true) ∨ moreL t.data.toList = false := by
  cases h : t.data.toList with
  | nil => exact .inr rfl
  | cons c l =>
    cases hd : digB (c.toNat : Int) with
    | true => exact .inl ⟨c, l, rfl, hd⟩
    | false => exact .inr hd
theorem pxl_stop {l : List UInt8} (h : moreL l = false) (n : Int) : pxl l n = (n, l) := by
  cases l with
  | nil => rfl
  | cons c t => rw [pxl, if_neg (by intro g; rw [moreL, g] at h; cases h)]
theorem ptl_stop {l : List UInt8} (h : moreL l = false) (n u : Int) : ptl l n u = some (n, l) := by
  cases l with
  | nil => rfl
  | cons c t => rw [ptl, if_neg (by intro g; rw [moreL, g] at h; cases h)]
theorem grow1_bd (n : Int) (c : UInt8) (hn : 0 ≤ n) (hd : 0 ≤ dg c) : 0 ≤ grow1 n c ∧ grow1 n c ≤ 1099511627776 := by
  unfold grow1; split <;> omega

theorem pixels_no (p : Nat) (t : ByteArray) (w : World) (h : At p t w) (hm : moreL t.data.toList = false) :
    Calls Tryd.prog 82 #[.pointer (some ⟨p, 0, none⟩)] w fun e w' => e = .panicked PC ∧ w' = w := by
  have HM := Lib.hid hm
  clear hm
  go_enter Tryd.func82, Tryd.ntmps82
  go_wp2_with (go_at_call 91; refine (digit_no p t _ h HM.out).mono ?_; rintro e w' ⟨rfl, rfl⟩)
  exact ⟨rfl, rfl, rfl⟩
theorem pixels_yes (p : Nat) (t : ByteArray) (c : UInt8) (l : List UInt8) (w : World) (h : At p t w) (hl : t.data.toList = c :: l) (hd : digB (c.toNat : Int) = true) (N : Int) (R : List UInt8) (hR : pxl l (dg c) = (N, R)) :
    Calls Tryd.prog 82 #[.pointer (some ⟨p, 0, none⟩)] w fun e w' => e = .returned (.int .i64 N) ∧ (0 ≤ N ∧ N ≤ 1099511627776) ∧ ∃ t', t'.data.toList = R ∧ At p t' w' ∧ Below p w w' := by
  have HD := Lib.hid hd
  have HL := Lib.hid hl
  have HR := Lib.hid hR
  have hb := dg_bd hd
  obtain ⟨d, hdd⟩ : ∃ d, dg c = d := ⟨_, rfl⟩
  have HDD := Lib.hid hdd
  rw [hdd] at hb
  clear hd hl hR hdd
  go_enter Tryd.func82, Tryd.ntmps82
  go_wp2_with fail
  refine (digit_yes p t c l _ h HL.out HD.out).mono ?_
  rintro e w1 ⟨rfl, t1, ht1, a1, b1⟩
  rw [HDD.out]
  have HS := Lib.hid (show pxl t1.data.toList d = (N, R) by rw [ht1, ← HDD.out]; exact HR.out)
  clear HR HL HD HDD ht1 h
  go_wp2
  go_loopw [3] (fun s3 wr => ∃ (n : Int) (t : ByteArray), s3 = .int .i64 n ∧ (0 ≤ n ∧ n ≤ 1099511627776) ∧ pxl t.data.toList n = (N, R) ∧ At p t wr ∧ Below p w wr) (fun _ wr => leftOf p wr)
  case atStart => exact ⟨d, t1, rfl, ⟨hb.1, by omega⟩, HS.out, a1, b1⟩
  case round =>
    clear HS a1 b1 hb
    obtain ⟨n, x, rfl, hn, hx, ax, bx⟩ := hrel
    have HX := Lib.hid hx
    clear hx
    rcases more_cases x with ⟨c2, l2, h2, hd2⟩ | hm
    · have HM := Lib.hid (show moreL x.data.toList = true by rw [h2]; exact hd2)
      have hb2 := dg_bd hd2
      have HG := Lib.hid (grow1_bd n c2 hn.1 hb2.1)
      have HX2 := Lib.hid (show pxl l2 (grow1 n c2) = (N, R) by have := HX.out; rw [h2, pxl, if_pos hd2] at this; exact this)
      have HQ := Lib.hid (show grow1 n c2 = if 1099511627776 < n * 10 + dg c2 then 1099511627776 else n * 10 + dg c2 from rfl)
      obtain ⟨G, hG⟩ : ∃ G, grow1 n c2 = G := ⟨_, rfl⟩
      obtain ⟨d2, hd3⟩ : ∃ d2, dg c2 = d2 := ⟨_, rfl⟩
      have hq := HQ.out
      rw [hG, hd3] at hq
      rw [hd3] at hb2
      have HG2 := Lib.hid hG
      have HD2 := Lib.hid hd3
      have HL2 := Lib.hid h2
      have HDD2 := Lib.hid hd2
      have e1 : IntKind.i64.wrap (10 * n) = 10 * n := IntWalk.i64_in _ (by omega)
      have e2 : IntKind.i64.wrap (10 * n + d2) = 10 * n + d2 := IntWalk.i64_in _ (by omega)
      have e3 : (if 1099511627776 < 10 * n + d2 then 1099511627776 else 10 * n + d2) = G := by rw [hq, Int.mul_comm]
      clear hq hG hd3 h2 hd2 HQ HX
      go_wp2_with fail
      refine (more_any p x _ ax).mono ?_
      rintro e w2 ⟨rfl, rfl⟩
      rw [HM.out]
      go_wp2_with fail
      refine (digit_yes p x c2 l2 _ ax HL2.out HDD2.out).mono ?_
      rintro e w3 ⟨rfl, t3, ht3, a3, b3⟩
      rw [HD2.out]
      have hl3 := leftOf_at ax
      have hl4 := leftOf_at a3
      have HZ := Lib.hid (show leftOf p w3 < leftOf p w2 by rw [hl3, hl4, ht3, HL2.out]; simp)
      have HX3 := Lib.hid (show pxl t3.data.toList G = (N, R) by rw [ht3, ← HG2.out]; exact HX2.out)
      have HG3 := Lib.hid (show 0 ≤ G ∧ G ≤ 1099511627776 by rw [← HG2.out]; exact HG.out)
      have bx3 := bx.trans b3
      clear hl3 hl4 ht3 HX2 HL2 HG HG2 HDD2 HD2 HM bx b3 ax
      go_wp2
      go_roundw
      case rel => exact ⟨G, t3, rfl, HG3.out, HX3.out, a3, bx3⟩
      case measure => exact HZ.out
    · have HM := Lib.hid hm
      have HE := Lib.hid (show (n, x.data.toList) = (N, R) by rw [← pxl_stop hm n]; exact HX.out)
      clear hm HX
      go_wp2_with fail
      refine (more_any p x _ ax).mono ?_
      rintro e w2 ⟨rfl, rfl⟩
      rw [HM.out]
      go_wp2
      go_ret
      have hE := HE.out
      exact ⟨by rw [(Prod.mk.inj hE).1]; rfl, by rw [← (Prod.mk.inj hE).1]; exact hn, x, (Prod.mk.inj hE).2, ax, bx⟩

end Go.Proofs.YtjjklchfcklahaaDoor
