/- What the program's own reader makes of a whole text: number. -/
import Derived.Test.YtjjklchfcklahaaDoorFixD
namespace Go.Proofs.YtjjklchfcklahaaDoor
open Go.RowKit
set_option linter.unusedVariables false
set_option linter.unusedSimpArgs false
set_option maxHeartbeats 8000000

/-- What number does, by the text before it. -/
def NumPost (p : Nat) (l : List UInt8) (w : World) (e : Ending) (w' : World) : Prop :=
  (∃ n, parseL l = .tuple #[.int .i64 n, .int .i64 0] ∧ e = .returned (.int .i64 n) ∧ Below p w w') ∨ (parseL l = pErr ∧ e = .panicked PC ∧ Below p w w')

theorem number_neg (p : Nat) (t : ByteArray) (L : List UInt8) (w : World) (h : At p t w) (hL : t.data.toList = L) (hs : L.head? = some 45) :
    Calls Tryd.prog 72 #[.pointer (some ⟨p, 0, none⟩)] w fun e w' => NumPost p L w e w' := by
  have HL := Lib.hid hL
  have HP := Lib.hid (show parseL L = numberL (-1) L.tail by unfold parseL; rw [if_pos hs])
  have HS := Lib.hid (show t.data.toList.head? = some (UInt8.ofNat 45) by rw [hL]; exact hs)
  clear hL hs
  go_enter Tryd.func72, Tryd.ntmps72
  go_wp2_with fail
  refine (skip_yes p t 45 _ h (by omega) HS.out).mono ?_
  rintro e w1 ⟨rfl, t1, ht1, a1, b1⟩
  have HN1 := Lib.hid (show parseL L = numberL (-1) t1.data.toList by rw [HP.out, ht1, HL.out])
  clear HP HS ht1 h HL
  rcases more_cases t1 with ⟨c, l, hl, hd⟩ | hm
  · obtain ⟨N, R, hR⟩ : ∃ N R, pxl l (dg c) = (N, R) := ⟨_, _, rfl⟩
    have HN2 := Lib.hid (show parseL L = afterL (-1) N R by rw [HN1.out, hl, numberL, if_pos hd, hR])
    have HR := Lib.hid hR
    have HD := Lib.hid hd
    have HL1 := Lib.hid hl
    clear hR hd hl HN1
    go_wp2_with fail
    refine (pixels_yes p t1 c l _ a1 HL1.out HD.out N R HR.out).mono ?_
    rintro e w2 ⟨rfl, hN, t2, ht2, a2, b2⟩
    have e1 : IntKind.i64.wrap (N * 256) = N * 256 := IntWalk.i64_in _ (by omega)
    have HN3 := Lib.hid (show parseL L = afterL (-1) N t2.data.toList by rw [ht2]; exact HN2.out)
    have b2 := b1.trans b2
    clear HN2 HR HD HL1 ht2 a1 b1
    by_cases h46 : t2.data.toList.head? = some 46
    · have HN4 := Lib.hid (show parseL L = (match partsL t2.data.toList.tail with | none => pErr | some x => endL (-1) (N * 256 + x.1) x.2) by rw [HN3.out]; unfold afterL; rw [if_pos h46]; rfl)
      have HS2 := Lib.hid (show t2.data.toList.head? = some (UInt8.ofNat 46) from h46)
      clear HN3 h46
      go_wp2_with fail
      refine (skip_yes p t2 46 _ a2 (by omega) HS2.out).mono ?_
      rintro e w3 ⟨rfl, t3, ht3, a3, b3⟩
      rw [← ht3] at HN4
      have b3 := b2.trans b3
      clear HS2 ht3 a2 b2
      go_wp2_with fail
      refine (parts_any p t3 _ a3).mono ?_
      rintro e w4 (⟨q, r, t4, hq, rfl, bq, hr, a4, b4⟩ | ⟨hq, rfl, b4⟩)
      · have HN5 := Lib.hid (show parseL L = endL (-1) (N * 256 + q) t4.data.toList by rw [HN4.out, hq, hr])
        have b4 := b3.trans b4
        have e2 : IntKind.i64.wrap (N * 256 + q) = N * 256 + q := IntWalk.i64_in _ (by omega)
        obtain ⟨V, hV⟩ : ∃ V, N * 256 + q = V := ⟨_, rfl⟩
        have bV : 0 ≤ V ∧ V ≤ 300000000000000 := by omega
        rw [hV] at HN5
        clear HN4 hq hr a3 b3
        rw [hV] at e2
        have hc := a4.c
        have hf := a4.f
        by_cases h0 : 0 < t4.size
        · have f1 := full_empty h0
          have f2 := full_ne h0
          have FIN := Lib.hid (show parseL L = pErr by rw [HN5.out, cons_of t4 h0, endL_cons])
          clear HN5
          go_wp2
          exact ⟨rfl, .inr ⟨FIN.out, rfl, b4⟩⟩
        · have f1 := nil_of' h0
          have f2 := nil_of h0
          have HN9 := Lib.hid (show parseL L = endL (-1) (V) [] by rw [HN5.out, f2])
          clear HN5 f2
          by_cases hG : 1099511627776 < V
          · have q1 : decide (1099511627776 < V) = true := by simpa using hG
            have FIN := Lib.hid (show parseL L = pErr by rw [HN9.out]; unfold endL; rw [if_neg (by rintro ⟨_, g⟩; omega)])
            clear HN9
            go_wp2
            exact ⟨rfl, .inr ⟨FIN.out, rfl, b4⟩⟩
          · have q1 : decide (1099511627776 < V) = false := by simpa using hG
            have e9 : IntKind.i64.wrap (-(V)) = -(V) := IntWalk.i64_in _ (by omega)
            have FIN := Lib.hid (show parseL L = .tuple #[.int .i64 (-(V)), .int .i64 0] by rw [HN9.out]; unfold endL; rw [if_pos ⟨rfl, by omega⟩, show (-1 : Int) * V = -(V) by omega])
            clear HN9
            go_wp2
            go_ret
            exact .inl ⟨_, FIN.out, rfl, b4⟩
      · have FIN := Lib.hid (show parseL L = pErr by rw [HN4.out, hq])
        clear HN4 hq
        go_wp2
        exact ⟨rfl, .inr ⟨FIN.out, rfl, b3.trans b4⟩⟩
    · have HN4 := Lib.hid (show parseL L = endL (-1) (N * 256) t2.data.toList by rw [HN3.out]; unfold afterL; rw [if_neg h46])
      have HS2 := Lib.hid (show t2.data.toList.head? ≠ some (UInt8.ofNat 46) from h46)
      obtain ⟨V, hV⟩ : ∃ V, N * 256 = V := ⟨_, rfl⟩
      have bV : 0 ≤ V ∧ V ≤ 300000000000000 := by omega
      rw [hV] at HN4 e1
      clear HN3 h46
      go_wp2_with fail
      refine (skip_no p t2 46 _ a2 (by omega) HS2.out).mono ?_
      rintro e w3 ⟨rfl, rfl⟩
      clear HS2
      have hc := a2.c
      have hf := a2.f
      by_cases h0 : 0 < t2.size
      · have f1 := full_empty h0
        have f2 := full_ne h0
        have FIN := Lib.hid (show parseL L = pErr by rw [HN4.out, cons_of t2 h0, endL_cons])
        clear HN4
        go_wp2
        exact ⟨rfl, .inr ⟨FIN.out, rfl, b2⟩⟩
      · have f1 := nil_of' h0
        have f2 := nil_of h0
        have HN9 := Lib.hid (show parseL L = endL (-1) (V) [] by rw [HN4.out, f2])
        clear HN4 f2
        by_cases hG : 1099511627776 < V
        · have q1 : decide (1099511627776 < V) = true := by simpa using hG
          have FIN := Lib.hid (show parseL L = pErr by rw [HN9.out]; unfold endL; rw [if_neg (by rintro ⟨_, g⟩; omega)])
          clear HN9
          go_wp2
          exact ⟨rfl, .inr ⟨FIN.out, rfl, b2⟩⟩
        · have q1 : decide (1099511627776 < V) = false := by simpa using hG
          have e9 : IntKind.i64.wrap (-(V)) = -(V) := IntWalk.i64_in _ (by omega)
          have FIN := Lib.hid (show parseL L = .tuple #[.int .i64 (-(V)), .int .i64 0] by rw [HN9.out]; unfold endL; rw [if_pos ⟨rfl, by omega⟩, show (-1 : Int) * V = -(V) by omega])
          clear HN9
          go_wp2
          go_ret
          exact .inl ⟨_, FIN.out, rfl, b2⟩
  · have HM := Lib.hid hm
    have FIN := Lib.hid (show parseL L = pErr by
      rw [HN1.out]
      cases hl : t1.data.toList with
      | nil => rfl
      | cons c l => rw [numberL, if_neg (by intro g; rw [hl, moreL, g] at hm; cases hm)])
    clear hm HN1
    go_wp2_with fail
    refine (pixels_no p t1 _ a1 HM.out).mono ?_
    rintro e w2 ⟨rfl, rfl⟩
    go_wp2
    exact ⟨rfl, .inr ⟨FIN.out, rfl, b1⟩⟩
  
theorem number_pos (p : Nat) (t : ByteArray) (L : List UInt8) (w : World) (h : At p t w) (hL : t.data.toList = L) (hs : L.head? ≠ some 45) :
    Calls Tryd.prog 72 #[.pointer (some ⟨p, 0, none⟩)] w fun e w' => NumPost p L w e w' := by
  have HL := Lib.hid hL
  have HP := Lib.hid (show parseL L = numberL (1) L by unfold parseL; rw [if_neg hs])
  have HS := Lib.hid (show t.data.toList.head? ≠ some (UInt8.ofNat 45) by rw [hL]; exact hs)
  clear hL hs
  go_enter Tryd.func72, Tryd.ntmps72
  go_wp2_with fail
  refine (skip_no p t 45 _ h (by omega) HS.out).mono ?_
  rintro e w1 ⟨rfl, rfl⟩
  obtain ⟨t1, rfl⟩ : ∃ t1, t = t1 := ⟨t, rfl⟩
  have a1 := h
  have b1 : Below p w1 w1 := Below.refl _ _
  have HN1 := Lib.hid (show parseL L = numberL 1 t.data.toList by rw [HP.out, HL.out])
  clear HP HS h HL
  rcases more_cases t with ⟨c, l, hl, hd⟩ | hm
  · obtain ⟨N, R, hR⟩ : ∃ N R, pxl l (dg c) = (N, R) := ⟨_, _, rfl⟩
    have HN2 := Lib.hid (show parseL L = afterL (1) N R by rw [HN1.out, hl, numberL, if_pos hd, hR])
    have HR := Lib.hid hR
    have HD := Lib.hid hd
    have HL1 := Lib.hid hl
    clear hR hd hl HN1
    go_wp2_with fail
    refine (pixels_yes p t c l _ a1 HL1.out HD.out N R HR.out).mono ?_
    rintro e w2 ⟨rfl, hN, t2, ht2, a2, b2⟩
    have e1 : IntKind.i64.wrap (N * 256) = N * 256 := IntWalk.i64_in _ (by omega)
    have HN3 := Lib.hid (show parseL L = afterL (1) N t2.data.toList by rw [ht2]; exact HN2.out)
    have b2 := b1.trans b2
    clear HN2 HR HD HL1 ht2 a1 b1
    by_cases h46 : t2.data.toList.head? = some 46
    · have HN4 := Lib.hid (show parseL L = (match partsL t2.data.toList.tail with | none => pErr | some x => endL (1) (N * 256 + x.1) x.2) by rw [HN3.out]; unfold afterL; rw [if_pos h46]; rfl)
      have HS2 := Lib.hid (show t2.data.toList.head? = some (UInt8.ofNat 46) from h46)
      clear HN3 h46
      go_wp2_with fail
      refine (skip_yes p t2 46 _ a2 (by omega) HS2.out).mono ?_
      rintro e w3 ⟨rfl, t3, ht3, a3, b3⟩
      rw [← ht3] at HN4
      have b3 := b2.trans b3
      clear HS2 ht3 a2 b2
      go_wp2_with fail
      refine (parts_any p t3 _ a3).mono ?_
      rintro e w4 (⟨q, r, t4, hq, rfl, bq, hr, a4, b4⟩ | ⟨hq, rfl, b4⟩)
      · have HN5 := Lib.hid (show parseL L = endL (1) (N * 256 + q) t4.data.toList by rw [HN4.out, hq, hr])
        have b4 := b3.trans b4
        have e2 : IntKind.i64.wrap (N * 256 + q) = N * 256 + q := IntWalk.i64_in _ (by omega)
        obtain ⟨V, hV⟩ : ∃ V, N * 256 + q = V := ⟨_, rfl⟩
        have bV : 0 ≤ V ∧ V ≤ 300000000000000 := by omega
        rw [hV] at HN5
        clear HN4 hq hr a3 b3
        rw [hV] at e2
        have hc := a4.c
        have hf := a4.f
        by_cases h0 : 0 < t4.size
        · have f1 := full_empty h0
          have f2 := full_ne h0
          have FIN := Lib.hid (show parseL L = pErr by rw [HN5.out, cons_of t4 h0, endL_cons])
          clear HN5
          go_wp2
          exact ⟨rfl, .inr ⟨FIN.out, rfl, b4⟩⟩
        · have f1 := nil_of' h0
          have f2 := nil_of h0
          have HN9 := Lib.hid (show parseL L = endL (1) (V) [] by rw [HN5.out, f2])
          clear HN5 f2
          by_cases hG : 1099511627776 < V
          · have q1 : decide (1099511627776 < V) = true := by simpa using hG
            have FIN := Lib.hid (show parseL L = pErr by rw [HN9.out]; unfold endL; rw [if_neg (by rintro ⟨_, g⟩; omega)])
            clear HN9
            go_wp2
            exact ⟨rfl, .inr ⟨FIN.out, rfl, b4⟩⟩
          · have q1 : decide (1099511627776 < V) = false := by simpa using hG
            have FIN := Lib.hid (show parseL L = .tuple #[.int .i64 (V), .int .i64 0] by rw [HN9.out]; unfold endL; rw [if_pos ⟨rfl, by omega⟩, Int.one_mul])
            clear HN9
            go_wp2
            go_ret
            exact .inl ⟨_, FIN.out, rfl, b4⟩
      · have FIN := Lib.hid (show parseL L = pErr by rw [HN4.out, hq])
        clear HN4 hq
        go_wp2
        exact ⟨rfl, .inr ⟨FIN.out, rfl, b3.trans b4⟩⟩
    · have HN4 := Lib.hid (show parseL L = endL (1) (N * 256) t2.data.toList by rw [HN3.out]; unfold afterL; rw [if_neg h46])
      have HS2 := Lib.hid (show t2.data.toList.head? ≠ some (UInt8.ofNat 46) from h46)
      obtain ⟨V, hV⟩ : ∃ V, N * 256 = V := ⟨_, rfl⟩
      have bV : 0 ≤ V ∧ V ≤ 300000000000000 := by omega
      rw [hV] at HN4 e1
      clear HN3 h46
      go_wp2_with fail
      refine (skip_no p t2 46 _ a2 (by omega) HS2.out).mono ?_
      rintro e w3 ⟨rfl, rfl⟩
      clear HS2
      have hc := a2.c
      have hf := a2.f
      by_cases h0 : 0 < t2.size
      · have f1 := full_empty h0
        have f2 := full_ne h0
        have FIN := Lib.hid (show parseL L = pErr by rw [HN4.out, cons_of t2 h0, endL_cons])
        clear HN4
        go_wp2
        exact ⟨rfl, .inr ⟨FIN.out, rfl, b2⟩⟩
      · have f1 := nil_of' h0
        have f2 := nil_of h0
        have HN9 := Lib.hid (show parseL L = endL (1) (V) [] by rw [HN4.out, f2])
        clear HN4 f2
        by_cases hG : 1099511627776 < V
        · have q1 : decide (1099511627776 < V) = true := by simpa using hG
          have FIN := Lib.hid (show parseL L = pErr by rw [HN9.out]; unfold endL; rw [if_neg (by rintro ⟨_, g⟩; omega)])
          clear HN9
          go_wp2
          exact ⟨rfl, .inr ⟨FIN.out, rfl, b2⟩⟩
        · have q1 : decide (1099511627776 < V) = false := by simpa using hG
          have FIN := Lib.hid (show parseL L = .tuple #[.int .i64 (V), .int .i64 0] by rw [HN9.out]; unfold endL; rw [if_pos ⟨rfl, by omega⟩, Int.one_mul])
          clear HN9
          go_wp2
          go_ret
          exact .inl ⟨_, FIN.out, rfl, b2⟩
  · have HM := Lib.hid hm
    have FIN := Lib.hid (show parseL L = pErr by
      rw [HN1.out]
      cases hl : t.data.toList with
      | nil => rfl
      | cons c l => rw [numberL, if_neg (by intro g; rw [hl, moreL, g] at hm; cases hm)])
    clear hm HN1
    go_wp2_with fail
    refine (pixels_no p t _ a1 HM.out).mono ?_
    rintro e w2 ⟨rfl, rfl⟩
    go_wp2
    exact ⟨rfl, .inr ⟨FIN.out, rfl, b1⟩⟩
  
theorem number_any (p : Nat) (t : ByteArray) (w : World) (h : At p t w) :
    Calls Tryd.prog 72 #[.pointer (some ⟨p, 0, none⟩)] w fun e w' => NumPost p t.data.toList w e w' := by
  by_cases hs : t.data.toList.head? = some 45
  · exact number_neg p t _ w h rfl hs
  · exact number_pos p t _ w h rfl hs
end Go.Proofs.YtjjklchfcklahaaDoor
