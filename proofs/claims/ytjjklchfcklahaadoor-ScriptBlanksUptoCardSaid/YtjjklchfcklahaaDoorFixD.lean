/- What the program's own reader does behind the point: parts. -/
import Derived.Test.YtjjklchfcklahaaDoorFixC
namespace Go.Proofs.YtjjklchfcklahaaDoor
open Go.RowKit
set_option linter.unusedVariables false
set_option linter.unusedSimpArgs false
set_option maxHeartbeats 4000000

/-- What parts does, by the text before it. -/
def PartsPost (p : Nat) (l : List UInt8) (w : World) (e : Ending) (w' : World) : Prop :=
  (∃ q r t', partsL l = some (q, r) ∧ e = .returned (.int .i64 q) ∧ (0 ≤ q ∧ q ≤ 256) ∧ t'.data.toList = r ∧ At p t' w' ∧ Below p w w') ∨ (partsL l = none ∧ e = .panicked PC ∧ Below p w w')

theorem parts_any (p : Nat) (t : ByteArray) (w : World) (h : At p t w) :
    Calls Tryd.prog 83 #[.pointer (some ⟨p, 0, none⟩)] w fun e w' => PartsPost p t.data.toList w e w' := by
  rcases more_cases t with ⟨c, l, hl, hd⟩ | hm
  · have HP := Lib.hid (show partsL t.data.toList = (ptl l (dg c * 10000000) 10000000).bind (fun x => whole x.1 x.2) by rw [hl, partsL, if_pos hd])
    obtain ⟨O, hO⟩ : ∃ O, ptl l (dg c * 10000000) 10000000 = O := ⟨_, rfl⟩
    have HO := Lib.hid hO
    have HP2 := Lib.hid (show partsL t.data.toList = O.bind (fun x => whole x.1 x.2) by rw [HP.out, hO])
    have HD := Lib.hid hd
    have HL := Lib.hid hl
    have hb := dg_bd hd
    obtain ⟨d, hdd⟩ : ∃ d, dg c = d := ⟨_, rfl⟩
    have HDD := Lib.hid hdd
    rw [hdd] at hb
    obtain ⟨L, hLL⟩ : ∃ L, t.data.toList = L := ⟨_, rfl⟩
    rw [hLL]
    have HL0 := Lib.hid hLL
    have e1 : IntKind.i64.wrap (d * 10000000) = d * 10000000 := IntWalk.i64_in _ (by omega)
    clear hd hl hO hdd hLL HP
    go_enter Tryd.func83, Tryd.ntmps83
    go_wp2_with fail
    refine (digit_yes p t c l _ h HL.out HD.out).mono ?_
    rintro e w1 ⟨rfl, t1, ht1, a1, b1⟩
    rw [HDD.out]
    have HS := Lib.hid (show ptl t1.data.toList (d * 10000000) 10000000 = O by rw [ht1, ← HDD.out]; exact HO.out)
    have HP3 := Lib.hid (show partsL L = O.bind (fun x => whole x.1 x.2) by rw [← HL0.out]; exact HP2.out)
    clear HL HD HDD ht1 h HO HP2 HL0
    go_wp2
    go_loopw [3, 4] (fun s3 s4 wr => ∃ (u n : Int) (t : ByteArray), s3 = .int .i64 u ∧ s4 = .int .i64 n ∧ 0 ≤ n ∧ 0 ≤ u ∧ n + u ≤ 100000000 ∧ ptl t.data.toList n u = O ∧ At p t wr ∧ Below p w wr) (fun _ _ wr => leftOf p wr)
    case atStart => exact ⟨10000000, d * 10000000, t1, rfl, rfl, by omega, by omega, by omega, HS.out, a1, b1⟩
    case round =>
      clear HS a1 b1 hb e1
      obtain ⟨u, n, x, rfl, rfl, hn, hu, hnu, hx, ax, bx⟩ := hrel
      have HX := Lib.hid hx
      clear hx
      rcases more_cases x with ⟨c2, l2, h2, hd2⟩ | hm
      · have HM := Lib.hid (show moreL x.data.toList = true by rw [h2]; exact hd2)
        have hb2 := dg_bd hd2
        have HX2 := Lib.hid (show (if u / 10 = 0 ∧ dg c2 ≠ 0 then none else ptl l2 (n + dg c2 * (u / 10)) (u / 10)) = O by have := HX.out; rw [h2, ptl, if_pos hd2] at this; exact this)
        have hd10 : Int.tdiv u 10 = u / 10 := Int.tdiv_eq_ediv_of_nonneg hu
        obtain ⟨v, hv⟩ : ∃ v, u / 10 = v := ⟨_, rfl⟩
        obtain ⟨d2, hd3⟩ : ∃ d2, dg c2 = d2 := ⟨_, rfl⟩
        have hq := HX2.out
        rw [hv, hd3] at hq
        rw [hd3] at hb2
        rw [hv] at hd10
        have v0 : 0 ≤ v ∧ 10 * v ≤ u := by omega
        have HD2 := Lib.hid hd3
        have HL2 := Lib.hid h2
        have HDD2 := Lib.hid hd2
        have e1 : IntKind.i64.wrap v = v := IntWalk.i64_in _ (by omega)
        have hmm : 0 ≤ d2 * v ∧ d2 * v ≤ 9 * v := ⟨Int.mul_nonneg hb2.1 v0.1, Int.mul_le_mul_of_nonneg_right hb2.2 v0.1⟩
        obtain ⟨m, hm⟩ : ∃ m, d2 * v = m := ⟨_, rfl⟩
        rw [hm] at hq hmm
        have e2 : IntKind.i64.wrap m = m := IntWalk.i64_in _ (by omega)
        have e3 : IntKind.i64.wrap (n + m) = n + m := IntWalk.i64_in _ (by omega)
        by_cases hz : v = 0 ∧ d2 ≠ 0
        · rw [if_pos hz] at hq
          have q1 : (v == 0) = true := by simp; omega
          have q2 : (d2 == 0) = false := by simp; omega
          have q3 : (d2 != 0) = true := by simp; omega
          have FIN := Lib.hid (show partsL L = none by rw [HP3.out, ← hq]; rfl)
          clear hq hm hd3 h2 hd2 HX HX2 hz HP3 hv
          go_wp2_with fail
          refine (more_any p x _ ax).mono ?_
          rintro e w2 ⟨rfl, rfl⟩
          rw [HM.out]
          go_wp2_with fail
          refine (digit_yes p x c2 l2 _ ax HL2.out HDD2.out).mono ?_
          rintro e w3 ⟨rfl, t3, ht3, a3, b3⟩
          rw [HD2.out]
          go_wp2
          exact ⟨rfl, .inr ⟨FIN.out, rfl, bx.trans b3⟩⟩
        · rw [if_neg hz] at hq
          have HX3 := Lib.hid hq
          have go_on : ∀ (_ : True), True := fun h => h
          have FN := Lib.hid (show 0 ≤ n + m ∧ n + m + v ≤ 100000000 by omega)
          by_cases hv0 : v = 0
          · have hz0 : d2 = 0 := by
              by_cases g : d2 = 0
              · exact g
              · exact absurd ⟨hv0, g⟩ hz
            have q1 : (v == 0) = true := by simp; omega
            have q2 : (d2 == 0) = true := by simp; omega
            have q3 : (d2 != 0) = false := by simp; omega
            clear hq hd3 h2 hd2 HX HX2 hz HP3 hv hv0 hz0
            go_wp2_with fail
            refine (more_any p x _ ax).mono ?_
            rintro e w2 ⟨rfl, rfl⟩
            rw [HM.out]
            go_wp2_with fail
            refine (digit_yes p x c2 l2 _ ax HL2.out HDD2.out).mono ?_
            rintro e w3 ⟨rfl, t3, ht3, a3, b3⟩
            rw [HD2.out]
            have hl3 := leftOf_at ax
            have hl4 := leftOf_at a3
            have HZ := Lib.hid (show leftOf p w3 < leftOf p w2 by rw [hl3, hl4, ht3, HL2.out]; simp)
            have HX4 := Lib.hid (show ptl t3.data.toList (n + m) v = O by rw [ht3]; exact HX3.out)
            have bx3 := bx.trans b3
            clear hl3 hl4 ht3 HX3 HL2 HDD2 HD2 HM bx b3 ax
            go_wp2
            go_roundw
            case rel => exact ⟨v, n + m, t3, by go_num, by go_num, FN.out.1, v0.1, FN.out.2, HX4.out, a3, bx3⟩
            case measure => exact HZ.out
          · have q1 : (v == 0) = false := by simp; omega
            clear hq hd3 h2 hd2 HX HX2 hz HP3 hv hv0
            go_wp2_with fail
            refine (more_any p x _ ax).mono ?_
            rintro e w2 ⟨rfl, rfl⟩
            rw [HM.out]
            go_wp2_with fail
            refine (digit_yes p x c2 l2 _ ax HL2.out HDD2.out).mono ?_
            rintro e w3 ⟨rfl, t3, ht3, a3, b3⟩
            rw [HD2.out]
            have hl3 := leftOf_at ax
            have hl4 := leftOf_at a3
            have HZ := Lib.hid (show leftOf p w3 < leftOf p w2 by rw [hl3, hl4, ht3, HL2.out]; simp)
            have HX4 := Lib.hid (show ptl t3.data.toList (n + m) v = O by rw [ht3]; exact HX3.out)
            have bx3 := bx.trans b3
            clear hl3 hl4 ht3 HX3 HL2 HDD2 HD2 HM bx b3 ax
            go_wp2
            go_roundw
            case rel => exact ⟨v, n + m, t3, by go_num, by go_num, FN.out.1, v0.1, FN.out.2, HX4.out, a3, bx3⟩
            case measure => exact HZ.out
      · have HM := Lib.hid hm
        have HE := Lib.hid (show partsL L = whole n x.data.toList by rw [HP3.out, ← HX.out, ptl_stop hm]; rfl)
        have hm1 : Int.tmod n 390625 = n % 390625 := Int.tmod_eq_emod_of_nonneg hn
        have hd1 : Int.tdiv n 390625 = n / 390625 := Int.tdiv_eq_ediv_of_nonneg hn
        obtain ⟨r, hr⟩ : ∃ r, n % 390625 = r := ⟨_, rfl⟩
        obtain ⟨q, hq⟩ : ∃ q, n / 390625 = q := ⟨_, rfl⟩
        have bq : 0 ≤ q ∧ q ≤ 256 := by omega
        have br : 0 ≤ r ∧ r < 390625 := by omega
        have e1 : IntKind.i64.wrap q = q := IntWalk.i64_in _ (by omega)
        have e2 : IntKind.i64.wrap r = r := IntWalk.i64_in _ (by omega)
        rw [hr] at hm1
        rw [hq] at hd1
        by_cases hr0 : r = 0
        · have q1 : (r == 0) = true := by simp; omega
          have q2 : (r != 0) = false := by simp; omega
          have FIN := Lib.hid (show partsL L = some (q, x.data.toList) by rw [HE.out]; unfold whole; rw [hr, if_pos hr0, hq])
          clear hm HX HP3 hr hq hr0
          go_wp2_with fail
          refine (more_any p x _ ax).mono ?_
          rintro e w2 ⟨rfl, rfl⟩
          rw [HM.out]
          go_wp2
          go_ret
          exact .inl ⟨q, _, x, FIN.out, rfl, bq, rfl, ax, bx⟩
        · have q1 : (r == 0) = false := by simp; omega
          have q2 : (r != 0) = true := by simp; omega
          have FIN := Lib.hid (show partsL L = none by rw [HE.out]; unfold whole; rw [hr, if_neg hr0])
          clear hm HX HP3 hr hq hr0
          go_wp2_with fail
          refine (more_any p x _ ax).mono ?_
          rintro e w2 ⟨rfl, rfl⟩
          rw [HM.out]
          go_wp2
          exact ⟨rfl, .inr ⟨FIN.out, rfl, bx⟩⟩
  · have HN := Lib.hid (show partsL t.data.toList = none by
      cases hl : t.data.toList with
      | nil => rfl
      | cons c l => rw [partsL, if_neg (by intro g; rw [hl, moreL, g] at hm; cases hm)])
    have HM := Lib.hid hm
    clear hm
    go_enter Tryd.func83, Tryd.ntmps83
    go_wp2_with (go_at_call 91; refine (digit_no p t _ h HM.out).mono ?_; rintro e w' ⟨rfl, rfl⟩)
    exact ⟨rfl, .inr ⟨HN.out, rfl, Below.refl _ _⟩⟩
end Go.Proofs.YtjjklchfcklahaaDoor
