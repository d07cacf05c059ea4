/- What the document's own parsing of parts answers: Parse. -/
import Derived.Test.YtjjklchfcklahaaDoorRef3C
import Derived.Test.YtjjklchfcklahaaDoorRef3D
namespace Go.Proofs.YtjjklchfcklahaaDoor
open Go.RowKit
set_option linter.unusedVariables false
set_option linter.unusedSimpArgs false
set_option maxHeartbeats 2000000
set_option maxRecDepth 100000

/-- What no text of a number is told as: ErrDigits. -/
def pErr : Value := .tuple #[.int .i64 0, .int .i64 30]
/-- Behind the point, digit by digit. -/
def p4 (sg wh : Int) : List UInt8 → Int → Int → Value
  | [], num, ten => if num * 256 % ten = 0 then checkV sg wh (num * 256 / ten) else pErr
  | c :: t, num, ten => if digB c.toNat then p4 sg wh t (num * 10 + (c.toNat - 48)) (ten * 10) else pErr
/-- Without noughts behind, but one. -/
def strip (t : List UInt8) : List UInt8 := if h : 1 < t.length ∧ t.getLast? = some 48 then strip t.dropLast else t
termination_by t.length
decreasing_by simp; omega
/-- Behind the point. -/
def p3 (sg wh : Int) (t : List UInt8) : Value := if 8 < (strip t).length then pErr else p4 sg wh (strip t) 0 1
/-- At the point, or at what is none. -/
def p2 (sg wh : Int) : List UInt8 → Value
  | [] => pErr
  | c :: t => if c = 46 ∧ t ≠ [] then p3 sg wh t else pErr
/-- The whole pixels' digits; n were read. -/
def p1 (sg : Int) : List UInt8 → Int → Nat → Value
  | [], wh, n => if n = 0 then pErr else checkV sg wh 0
  | c :: t, wh, n => if digB c.toNat then p1 sg t (if 1099511627776 < wh * 10 + ((c.toNat : Int) - 48) then 1099511627776 else wh * 10 + ((c.toNat : Int) - 48)) (n + 1) else if n = 0 then pErr else p2 sg wh (c :: t)
/-- The number of a text. -/
def parseV (l : List UInt8) : Value := if 30 < l.length then pErr else if l.head? = some 45 then p1 (-1) l.tail 0 0 else p1 1 l 0 0

theorem extract_list (t : ByteArray) : (t.extract 1 t.size).data.toList = t.data.toList.tail := by
  have h : t.size = t.data.size := rfl
  simp only [ByteArray.data_extract, Array.toList_extract, h]
  simp only [List.extract, List.drop_one]
  exact List.take_of_length_le (by simp)
theorem cons_of (t : ByteArray) (h : 0 < t.size) : t.data.toList = t[0] :: (t.extract 1 t.size).data.toList := by
  rw [extract_list]
  have h2 : 0 < t.data.toList.length := by simpa using h
  have e : t[0] = t.data.toList[0] := rfl
  rw [e]
  exact (List.cons_head_tail (l := t.data.toList) (by intro g; rw [g] at h2; simp at h2)).symm.trans (by rw [List.head_eq_getElem])
theorem size_tail {t t' : ByteArray} (h : 0 < t.size) (h2 : t.extract 1 t.size = t') : t'.size + 1 = t.size := by
  have := congrArg List.length (cons_of t h)
  rw [h2] at this
  simp only [List.length_cons, Array.length_toList] at this
  exact this.symm
theorem full_empty {t : ByteArray} (h : 0 < t.size) : t.toList.isEmpty = false := by
  rw [ByteArray.toList_eq, cons_of t h]; rfl
theorem full_ne {t : ByteArray} (h : 0 < t.size) : ¬ t.toList = [] := by
  rw [ByteArray.toList_eq, cons_of t h]; simp
theorem nil_of {t : ByteArray} (h : ¬ 0 < t.size) : t.data.toList = [] := by
  have : t.data.toList.length = 0 := by rw [Array.length_toList]; have : t.data.size = t.size := rfl; omega
  exact List.length_eq_zero_iff.1 this
theorem nil_of' {t : ByteArray} (h : ¬ 0 < t.size) : t.toList = [] := by rw [ByteArray.toList_eq, nil_of h]

theorem drop_list (x : ByteArray) : (x.extract 0 (x.size - 1)).data.toList = x.data.toList.dropLast := by
  have h : x.size = x.data.size := rfl
  simp only [ByteArray.data_extract, Array.toList_extract, h, List.extract, List.drop_zero, List.dropLast_eq_take, Array.length_toList]
  rfl
theorem size_drop (x : ByteArray) : (x.extract 0 (x.size - 1)).size = x.size - 1 := by
  rw [← size_list, drop_list, List.length_dropLast, size_list]
theorem last_list (x : ByteArray) (h : x.size - 1 < x.size) : x.data.toList.getLast? = some x[x.size - 1] := by
  rw [List.getLast?_eq_getElem?, Array.length_toList]
  exact List.getElem?_eq_getElem (l := x.data.toList) (i := x.data.size - 1) (by rw [Array.length_toList]; exact h)
theorem last_fact (x : ByteArray) (h : x.size - 1 < x.size) (h1 : 1 < x.size) (hd : x[x.size - 1].toNat = 48) : 1 < x.data.toList.length ∧ x.data.toList.getLast? = some 48 := by
  refine ⟨by rw [size_list]; exact h1, ?_⟩
  rw [last_list x h]
  exact congrArg some (UInt8.toNat_inj.1 hd)
theorem last_fact' (x : ByteArray) (h : x.size - 1 < x.size) (hd : ¬ (1 < x.size ∧ x[x.size - 1].toNat = 48)) : ¬ (1 < x.data.toList.length ∧ x.data.toList.getLast? = some 48) := by
  rintro ⟨h1, h2⟩
  rw [last_list x h] at h2
  rw [size_list] at h1
  exact hd ⟨h1, by rw [Option.some.inj h2]; rfl⟩
theorem p3_step (sg wh : Int) (l : List UInt8) (h : 1 < l.length ∧ l.getLast? = some 48) : p3 sg wh l.dropLast = p3 sg wh l := by
  have e : strip l = strip l.dropLast := by conv => lhs; rw [strip, dif_pos h]
  unfold p3; rw [e]
theorem p3_stop (sg wh : Int) (l : List UInt8) (h : ¬ (1 < l.length ∧ l.getLast? = some 48)) : (if 8 < l.length then pErr else p4 sg wh l 0 1) = p3 sg wh l := by
  have e : strip l = l := by rw [strip, dif_neg h]
  unfold p3; rw [e]

theorem ten_pow (k : Nat) (h : k ≤ 8) : 1 ≤ (10 : Int) ^ k ∧ (10 : Int) ^ k ≤ 100000000 :=
  (by decide : ∀ k : Fin 9, 1 ≤ (10 : Int) ^ k.val ∧ (10 : Int) ^ k.val ≤ 100000000) ⟨k, by omega⟩
theorem drop_cons (x : ByteArray) (k : Nat) (h : k < x.size) : x.data.toList.drop k = x[k] :: x.data.toList.drop (k + 1) :=
  List.drop_eq_getElem_cons (l := x.data.toList) (i := k) (by rw [size_list]; exact h)

theorem part_bd (num ten : Int) (h0 : 0 ≤ num) (h1 : num < ten) : 0 ≤ num * 256 / ten ∧ num * 256 / ten ≤ 256 :=
  ⟨Int.ediv_nonneg (by omega) (by omega), Int.le_of_lt (Int.ediv_lt_of_lt_mul (by omega) (by omega))⟩

theorem rparse_short (s0 : ByteArray) (l : List UInt8) (w : World) (hs : s0.size ≤ 30) (h : s0.data.toList = l) :
    Calls Tryd.prog 26 #[.string s0] w fun e w' => e = .returned (parseV l) ∧ w' = w := by
  have hl : (l.length : Int) = s0.size := by rw [← h, Array.length_toList]; rfl
  have hl2 : ¬ 30 < l.length := by omega
  have hs1 : decide (30 < (s0.size : Int)) = false := by simp; omega
  have hs2 : decide (30 < s0.size) = false := by simp; omega
  have HH := Lib.hid h
  clear h
  go_enter Tryd.func26, Tryd.ntmps26
  go_upto_region 5 with fail
  go_cut [21] (fun s21 wx => wx = w ∧ ∃ b : Bool, s21 = .bool b ∧ (b = true → 0 < s0.size ∧ p1 (-1) (s0.extract 1 s0.size).data.toList 0 0 = parseV l) ∧ (b = false → p1 1 s0.data.toList 0 0 = parseV l))
  case first =>
    by_cases h0 : 0 < s0.size
    · have f1 := full_empty h0
      have f2 := full_ne h0
      obtain ⟨c, hc⟩ : ∃ c : Nat, s0[0].toNat = c := ⟨_, rfl⟩
      have HC := cons_of s0 h0
      have h30 : parseV l = if c = 45 then p1 (-1) (s0.extract 1 s0.size).data.toList 0 0 else p1 1 s0.data.toList 0 0 := by
        unfold parseV
        rw [if_neg hl2, ← HH.out]
        rw [HC]
        by_cases g : s0[0] = 45
        · rw [if_pos (by rw [g]; rfl), if_pos (by rw [← hc, g]; rfl)]; rfl
        · rw [if_neg (by simpa using g), if_neg (by rw [← hc]; intro k; exact g (UInt8.toNat_inj.1 k))]
      have H30 := Lib.hid h30
      clear HC h30 hl hl2
      by_cases g : c = 45
      · have g1 : ((c : Int) == 45) = true := by simp; omega
        have H31 := Lib.hid (show p1 (-1) (s0.extract 1 s0.size).data.toList 0 0 = parseV l by rw [H30.out, if_pos g])
        clear g
        go_wp2_with fail
        go_meet
        exact ⟨rfl, true, rfl, fun _ => ⟨h0, H31.out⟩, fun h => by cases h⟩
      · have g1 : ((c : Int) == 45) = false := by simp; omega
        have H31 := Lib.hid (show p1 1 s0.data.toList 0 0 = parseV l by rw [H30.out, if_neg g])
        clear g
        go_wp2_with fail
        go_meet
        exact ⟨rfl, false, rfl, fun h => (by cases h), fun _ => H31.out⟩
    · have f1 := nil_of' h0
      have H31 := Lib.hid (show p1 1 s0.data.toList 0 0 = parseV l by
        unfold parseV; rw [if_neg hl2, ← HH.out, nil_of h0]; rfl)
      clear hl hl2
      go_wp2_with fail
      go_meet
      exact ⟨rfl, false, rfl, fun h => (by cases h), fun _ => H31.out⟩
  case rest =>
    obtain ⟨rfl, b, rfl, hb1, hb2⟩ := hcut
    clear hl hl2 hs1 hs2
    have HB1 := Lib.hid hb1
    have HB2 := Lib.hid hb2
    clear hb1 hb2
    go_upto_if 21 with (fail)
    go_cut [4, 5] (fun s4 s5 wx => wx = wc ∧ ∃ t sg, s4 = .string t ∧ s5 = .int .i64 sg ∧ (sg = 1 ∨ sg = -1) ∧ t.size ≤ 30 ∧ p1 sg t.data.toList 0 0 = parseV l)
    case first =>
      cases b
      · have H31 := HB2.out rfl
        have H32 := Lib.hid H31
        clear H31
        go_wp2_with fail
        go_meet
        exact ⟨rfl, s0, 1, rfl, rfl, Or.inl rfl, hs, H32.out⟩
      · obtain ⟨h0, H31⟩ := HB1.out rfl
        obtain ⟨t, ht⟩ : ∃ t, s0.extract 1 s0.size = t := ⟨_, rfl⟩
        have hst := Lib.hid (size_tail h0 ht)
        have hs3 : t.size ≤ 30 := by have := hst.out; omega
        rw [ht] at H31
        have H32 := Lib.hid H31
        clear H31
        go_wp2_with fail
        go_meet
        exact ⟨rfl, t, -1, rfl, rfl, Or.inr rfl, hs3, H32.out⟩
    case rest =>
      obtain ⟨rfl, t, sg, rfl, rfl, hsg, hts, ht⟩ := hcut
      have HT0 := Lib.hid ht
      clear HB1 HB2 ht
      go_wp2_with fail
      go_loop [4, 6, 7] (fun s4 s6 s7 => ∃ (t : ByteArray) (wh : Int) (n : Nat), s4 = .string t ∧ s6 = .int .i64 wh ∧ s7 = .int .i64 n ∧ p1 sg t.data.toList wh n = parseV l ∧ (0 ≤ wh ∧ wh ≤ 1099511627776) ∧ n + t.size ≤ 30) (fun s4 _ _ => strLen s4)
      case atStart => exact ⟨t, 0, 0, rfl, rfl, rfl, HT0.out, by omega, by omega⟩
      case round =>
        clear HT0 hts
        obtain ⟨t, wh, n, rfl, rfl, rfl, hp, hwh, hnt⟩ := hrel
        by_cases h0 : 0 < t.size
        · have f1 := full_empty h0
          have f2 := full_ne h0
          obtain ⟨c, hc⟩ : ∃ c : Nat, t[0].toNat = c := ⟨_, rfl⟩
          have hcb : c < 256 := by rw [← hc]; exact t[0].toNat_lt
          have HC0 := Lib.hid hc
          obtain ⟨t', ht'⟩ : ∃ t', t.extract 1 t.size = t' := ⟨_, rfl⟩
          have HST := Lib.hid (size_tail h0 ht')
          have HPC := Lib.hid (show p1 sg (t[0] :: t'.data.toList) wh n = parseV l by rw [← ht', ← cons_of t h0]; exact hp)
          clear hp
          by_cases hd : digB c = true
          · have HP := Lib.hid (show p1 sg t'.data.toList (if 1099511627776 < wh * 10 + ((c : Int) - 48) then 1099511627776 else wh * 10 + ((c : Int) - 48)) (n + 1) = parseV l by
              have := HPC.out; rw [p1, hc, if_pos hd] at this; exact this)
            have hb : 48 ≤ c ∧ c ≤ 57 := by unfold digB at hd; simp at hd; omega
            have e1 : IntKind.i64.wrap (wh * 10) = wh * 10 := IntWalk.i64_in _ (by omega)
            have e2 : IntKind.u8.wrap ((c : Int) - 48) = (c : Int) - 48 := by rw [IntKind.wrap_u8]; omega
            have e3 : IntKind.i64.wrap (wh * 10 + ((c : Int) - 48)) = wh * 10 + ((c : Int) - 48) := IntWalk.i64_in _ (by omega)
            have e4 : IntKind.i64.wrap ((c : Int) - 48) = (c : Int) - 48 := IntWalk.i64_in _ (by omega)
            have HD := Lib.hid hd
            clear hd
            go_wp2_with fail
            refine (rdigit_any c _ ⟨by omega, by omega⟩).mono ?_
            rintro e w' ⟨rfl, rfl⟩
            rw [HD.out]
            go_wp2
            go_round
            case rel => exact ⟨t', _, n + 1, rfl, rfl, by go_num, HP.out, by split <;> omega, by have := HST.out; omega⟩
            case measure => simp [strLen]; have := HST.out; omega
          · have hd2 : digB c = false := by simpa using hd
            have HN := Lib.hid (show (if n = 0 then pErr else p2 sg wh (t[0] :: t'.data.toList)) = parseV l by
              have := HPC.out; rw [p1, hc, if_neg hd] at this; exact this)
            have HD := Lib.hid hd2
            clear hd hd2
            go_wp2_with fail
            refine (rdigit_any c _ ⟨by omega, by omega⟩).mono ?_
            rintro e w' ⟨rfl, rfl⟩
            rw [HD.out]
            by_cases hn0 : n = 0
            · have FIN := Lib.hid (show pErr = parseV l by rw [← HN.out, if_pos hn0])
              subst hn0
              go_wp2
              refine bodyPost_ret (by simp [results, Tryd.results26, go_sem] <;> rfl) rfl ⟨by rw [← FIN.out]; rfl, rfl⟩
            · have HN2 := Lib.hid (show p2 sg wh (t[0] :: t'.data.toList) = parseV l by rw [← HN.out, if_neg hn0])
              have e5 : ((n : Int) == 0) = false := by simp; omega
              clear HN
              by_cases h46 : c = 46
              · have g46 : ((c : Int) == 46) = true := by simp; omega
                have n46 : ((c : Int) != 46) = false := by simp; omega
                by_cases h2 : 2 ≤ t.size
                · have g2 : decide ((t.size : Int) < 2) = false := by simp; omega
                  have H3 := Lib.hid (show p3 sg wh t'.data.toList = parseV l by
                    rw [← HN2.out, p2, if_pos]
                    refine ⟨UInt8.toNat_inj.1 (by rw [HC0.out, h46]; rfl), fun g => ?_⟩
                    have := HST.out
                    rw [← size_list t', g] at this
                    simp at this; omega)
                  have ht30 : t'.size ≤ 28 := by have := HST.out; omega
                  have ht1 : 1 ≤ t'.size := by have := HST.out; omega
                  clear HN2 HPC HD HC0 HST h46
                  go_wp2_with fail
                  go_loop [4] (fun s4 => ∃ (t : ByteArray), s4 = .string t ∧ p3 sg wh t.data.toList = parseV l ∧ 1 ≤ t.size ∧ t.size ≤ 28) (fun s4 => strLen s4)
                  case atStart => exact ⟨t', rfl, H3.out, ht1, ht30⟩
                  case round =>
                    clear H3 ht30 ht1 g2 h2 n46 g46 e5 ht' hc f1 f2
                    obtain ⟨x, rfl, h3, hx1, hx2⟩ := hrel
                    have HX := Lib.hid h3
                    clear h3
                    obtain ⟨d, hd⟩ : ∃ d : Nat, (x[x.size - 1]'(by omega)).toNat = d := ⟨_, rfl⟩
                    by_cases hg : 1 < x.size ∧ d = 48
                    · have q1 : decide (1 < (x.size : Int)) = true := by simp; omega
                      have q2 : decide (1 < x.size) = true := by simp; omega
                      have q3 : IntKind.i64.wrap ((x.size : Int) - 1) = (x.size : Int) - 1 := IntWalk.i64_in _ (by omega)
                      have q4 : ((d : Int) == 48) = true := by simp; omega
                      have HS := Lib.hid (show p3 sg wh (x.extract 0 (x.size - 1)).data.toList = parseV l by
                        rw [drop_list, ← HX.out, p3_step _ _ _ (last_fact x (by omega) hg.1 (by rw [hd]; exact hg.2))])
                      have HZ := Lib.hid (size_drop x)
                      have hg1 := hg.1
                      clear hg
                      go_wp2
                      go_round
                      case rel => exact ⟨_, rfl, HS.out, by have := HZ.out; omega, by have := HZ.out; omega⟩
                      case measure => simp [strLen]; have := HZ.out; omega
                    · have HS := Lib.hid (show (if 8 < x.data.toList.length then pErr else p4 sg wh x.data.toList 0 1) = parseV l by
                        rw [← HX.out, p3_stop _ _ _ (last_fact' x (by omega) (by rw [hd]; exact hg))])
                      have q3 : IntKind.i64.wrap ((x.size : Int) - 1) = (x.size : Int) - 1 := IntWalk.i64_in _ (by omega)
                      clear HX
                      by_cases hg1 : 1 < x.size
                      · have q1 : decide (1 < (x.size : Int)) = true := by simp; omega
                        have q2 : decide (1 < x.size) = true := by simp; omega
                        have q4 : ((d : Int) == 48) = false := by simp; omega
                        clear hg
                        by_cases h8 : 8 < x.size
                        · have r1 : decide (8 < (x.size : Int)) = true := by simp; omega
                          have r2 : decide (8 < x.size) = true := by simp; omega
                          have FIN := Lib.hid (show pErr = parseV l by rw [← HS.out, if_pos (by rw [size_list]; exact h8)])
                          go_wp2
                          refine bodyPost_ret (by simp [results, Tryd.results26, go_sem] <;> rfl) rfl ⟨by rw [← FIN.out]; rfl, rfl⟩
                        · have r1 : decide (8 < (x.size : Int)) = false := by simp; omega
                          have r2 : decide (8 < x.size) = false := by simp; omega
                          have H4 := Lib.hid (show p4 sg wh x.data.toList 0 1 = parseV l by rw [← HS.out, if_neg (by rw [size_list]; exact h8)])
                          have h88 : x.size ≤ 8 := by omega
                          go_wp2_with fail
                          go_loop [8, 9, 10] (fun s8 s9 s10 => ∃ (num ten : Int) (k : Nat), s8 = .int .i64 num ∧ s9 = .int .i64 ten ∧ s10 = .int .i64 k ∧ p4 sg wh (x.data.toList.drop k) num ten = parseV l ∧ k ≤ x.size ∧ ten = 10 ^ k ∧ 0 ≤ num ∧ num < ten) (fun _ _ s10 => x.size - (intOf s10).toNat)
                          case atStart => exact ⟨0, 1, 0, rfl, rfl, rfl, H4.out, Nat.zero_le _, rfl, by omega, by omega⟩
                          case round =>
                            clear r1 r2
                            (try clear q4)
                            clear q1 q2 q3 hd HS
                            obtain ⟨num, ten, k, rfl, rfl, rfl, hp, hk, hten, hn1, hn2⟩ := hrel
                            have hk8 : k ≤ 8 := by omega
                            have tb : 1 ≤ ten ∧ ten ≤ 100000000 := by rw [hten]; exact ten_pow k hk8
                            have HTEN := Lib.hid hten
                            clear hten
                            have HQ := Lib.hid hp
                            clear hp
                            by_cases hlt : k < x.size
                            · obtain ⟨c3, hc3⟩ : ∃ c3 : Nat, x[k].toNat = c3 := ⟨_, rfl⟩
                              have hcb3 : c3 < 256 := by rw [← hc3]; exact x[k].toNat_lt
                              have HPC3 := Lib.hid (show p4 sg wh (x[k] :: x.data.toList.drop (k + 1)) num ten = parseV l by rw [← drop_cons x k hlt]; exact HQ.out)
                              by_cases hd3 : digB c3 = true
                              · have HP3 := Lib.hid (show p4 sg wh (x.data.toList.drop (k + 1)) (num * 10 + ((c3 : Int) - 48)) (ten * 10) = parseV l by
                                  have := HPC3.out; rw [p4, hc3, if_pos hd3] at this; exact this)
                                have hb3 : 48 ≤ c3 ∧ c3 ≤ 57 := by unfold digB at hd3; simp at hd3; omega
                                have e1 : IntKind.i64.wrap (num * 10) = num * 10 := IntWalk.i64_in _ (by omega)
                                have e2 : IntKind.u8.wrap ((c3 : Int) - 48) = (c3 : Int) - 48 := by rw [IntKind.wrap_u8]; omega
                                have e3 : IntKind.i64.wrap (num * 10 + ((c3 : Int) - 48)) = num * 10 + ((c3 : Int) - 48) := IntWalk.i64_in _ (by omega)
                                have e4 : IntKind.i64.wrap ((c3 : Int) - 48) = (c3 : Int) - 48 := IntWalk.i64_in _ (by omega)
                                have e5 : IntKind.i64.wrap (ten * 10) = ten * 10 := IntWalk.i64_in _ (by omega)
                                have HD3 := Lib.hid hd3
                                clear hd3
                                go_wp2_with fail
                                refine (rdigit_any c3 _ ⟨by omega, by omega⟩).mono ?_
                                rintro e w2 ⟨rfl, rfl⟩
                                rw [HD3.out]
                                go_wp2
                                go_round
                                case rel => exact ⟨_, _, k + 1, rfl, rfl, by go_num, HP3.out, by omega, by rw [HTEN.out, Int.pow_succ], by omega, by omega⟩
                                case measure => simp [intOf]; omega
                              · have hd4 : digB c3 = false := by simpa using hd3
                                have FIN := Lib.hid (show pErr = parseV l by
                                  have := HPC3.out; rw [p4, hc3, if_neg hd3] at this; exact this)
                                have HD3 := Lib.hid hd4
                                clear hd3 hd4
                                go_wp2_with fail
                                refine (rdigit_any c3 _ ⟨by omega, by omega⟩).mono ?_
                                rintro e w2 ⟨rfl, rfl⟩
                                rw [HD3.out]
                                go_wp2
                                refine bodyPost_ret (by simp [results, Tryd.results26, go_sem] <;> rfl) rfl ⟨by rw [← FIN.out]; rfl, rfl⟩
                            · have HF := Lib.hid (show (if num * 256 % ten = 0 then checkV sg wh (num * 256 / ten) else pErr) = parseV l by
                                have := HQ.out; rw [List.drop_of_length_le (by rw [size_list]; omega), p4] at this; exact this)
                              have e1 : IntKind.i64.wrap (num * 256) = num * 256 := IntWalk.i64_in _ (by omega)
                              have hten0 : ¬ ten = 0 := by omega
                              have hpt := part_bd num ten hn1 hn2
                              have hwh2 := hwh
                              by_cases hz : num * 256 % ten = 0
                              · have z1 : (num * 256 % ten != 0) = false := by simp; exact hz
                                have FIN := Lib.hid (show checkV sg wh (num * 256 / ten) = parseV l by rw [← HF.out, if_pos hz])
                                obtain ⟨v1, v2, hxy⟩ := checkV_parts sg wh (num * 256 / ten)
                                have FX := Lib.hid hxy
                                clear HF hxy hz
                                go_wp2_with fail
                                refine (rchecked_any sg wh (num * 256 / ten) _ hsg hwh2 hpt).mono ?_
                                rintro e w2 ⟨rfl, rfl⟩
                                rw [FX.out]
                                go_wp2
                                refine bodyPost_ret (by simp [results, Tryd.results26, go_sem] <;> rfl) rfl ⟨by rw [← FIN.out, FX.out], rfl⟩
                              · have z1 : (num * 256 % ten != 0) = true := by simp; exact hz
                                have FIN := Lib.hid (show pErr = parseV l by rw [← HF.out, if_neg hz])
                                clear HF hz
                                go_wp2
                                refine bodyPost_ret (by simp [results, Tryd.results26, go_sem] <;> rfl) rfl ⟨by rw [← FIN.out]; rfl, rfl⟩
                      · have q1 : decide (1 < (x.size : Int)) = false := by simp; omega
                        have q2 : decide (1 < x.size) = false := by simp; omega
                        clear hg
                        by_cases h8 : 8 < x.size
                        · have r1 : decide (8 < (x.size : Int)) = true := by simp; omega
                          have r2 : decide (8 < x.size) = true := by simp; omega
                          have FIN := Lib.hid (show pErr = parseV l by rw [← HS.out, if_pos (by rw [size_list]; exact h8)])
                          go_wp2
                          refine bodyPost_ret (by simp [results, Tryd.results26, go_sem] <;> rfl) rfl ⟨by rw [← FIN.out]; rfl, rfl⟩
                        · have r1 : decide (8 < (x.size : Int)) = false := by simp; omega
                          have r2 : decide (8 < x.size) = false := by simp; omega
                          have H4 := Lib.hid (show p4 sg wh x.data.toList 0 1 = parseV l by rw [← HS.out, if_neg (by rw [size_list]; exact h8)])
                          have h88 : x.size ≤ 8 := by omega
                          go_wp2_with fail
                          go_loop [8, 9, 10] (fun s8 s9 s10 => ∃ (num ten : Int) (k : Nat), s8 = .int .i64 num ∧ s9 = .int .i64 ten ∧ s10 = .int .i64 k ∧ p4 sg wh (x.data.toList.drop k) num ten = parseV l ∧ k ≤ x.size ∧ ten = 10 ^ k ∧ 0 ≤ num ∧ num < ten) (fun _ _ s10 => x.size - (intOf s10).toNat)
                          case atStart => exact ⟨0, 1, 0, rfl, rfl, rfl, H4.out, Nat.zero_le _, rfl, by omega, by omega⟩
                          case round =>
                            clear r1 r2
                            (try clear q4)
                            clear q1 q2 q3 hd HS
                            obtain ⟨num, ten, k, rfl, rfl, rfl, hp, hk, hten, hn1, hn2⟩ := hrel
                            have hk8 : k ≤ 8 := by omega
                            have tb : 1 ≤ ten ∧ ten ≤ 100000000 := by rw [hten]; exact ten_pow k hk8
                            have HTEN := Lib.hid hten
                            clear hten
                            have HQ := Lib.hid hp
                            clear hp
                            by_cases hlt : k < x.size
                            · obtain ⟨c3, hc3⟩ : ∃ c3 : Nat, x[k].toNat = c3 := ⟨_, rfl⟩
                              have hcb3 : c3 < 256 := by rw [← hc3]; exact x[k].toNat_lt
                              have HPC3 := Lib.hid (show p4 sg wh (x[k] :: x.data.toList.drop (k + 1)) num ten = parseV l by rw [← drop_cons x k hlt]; exact HQ.out)
                              by_cases hd3 : digB c3 = true
                              · have HP3 := Lib.hid (show p4 sg wh (x.data.toList.drop (k + 1)) (num * 10 + ((c3 : Int) - 48)) (ten * 10) = parseV l by
                                  have := HPC3.out; rw [p4, hc3, if_pos hd3] at this; exact this)
                                have hb3 : 48 ≤ c3 ∧ c3 ≤ 57 := by unfold digB at hd3; simp at hd3; omega
                                have e1 : IntKind.i64.wrap (num * 10) = num * 10 := IntWalk.i64_in _ (by omega)
                                have e2 : IntKind.u8.wrap ((c3 : Int) - 48) = (c3 : Int) - 48 := by rw [IntKind.wrap_u8]; omega
                                have e3 : IntKind.i64.wrap (num * 10 + ((c3 : Int) - 48)) = num * 10 + ((c3 : Int) - 48) := IntWalk.i64_in _ (by omega)
                                have e4 : IntKind.i64.wrap ((c3 : Int) - 48) = (c3 : Int) - 48 := IntWalk.i64_in _ (by omega)
                                have e5 : IntKind.i64.wrap (ten * 10) = ten * 10 := IntWalk.i64_in _ (by omega)
                                have HD3 := Lib.hid hd3
                                clear hd3
                                go_wp2_with fail
                                refine (rdigit_any c3 _ ⟨by omega, by omega⟩).mono ?_
                                rintro e w2 ⟨rfl, rfl⟩
                                rw [HD3.out]
                                go_wp2
                                go_round
                                case rel => exact ⟨_, _, k + 1, rfl, rfl, by go_num, HP3.out, by omega, by rw [HTEN.out, Int.pow_succ], by omega, by omega⟩
                                case measure => simp [intOf]; omega
                              · have hd4 : digB c3 = false := by simpa using hd3
                                have FIN := Lib.hid (show pErr = parseV l by
                                  have := HPC3.out; rw [p4, hc3, if_neg hd3] at this; exact this)
                                have HD3 := Lib.hid hd4
                                clear hd3 hd4
                                go_wp2_with fail
                                refine (rdigit_any c3 _ ⟨by omega, by omega⟩).mono ?_
                                rintro e w2 ⟨rfl, rfl⟩
                                rw [HD3.out]
                                go_wp2
                                refine bodyPost_ret (by simp [results, Tryd.results26, go_sem] <;> rfl) rfl ⟨by rw [← FIN.out]; rfl, rfl⟩
                            · have HF := Lib.hid (show (if num * 256 % ten = 0 then checkV sg wh (num * 256 / ten) else pErr) = parseV l by
                                have := HQ.out; rw [List.drop_of_length_le (by rw [size_list]; omega), p4] at this; exact this)
                              have e1 : IntKind.i64.wrap (num * 256) = num * 256 := IntWalk.i64_in _ (by omega)
                              have hten0 : ¬ ten = 0 := by omega
                              have hpt := part_bd num ten hn1 hn2
                              have hwh2 := hwh
                              by_cases hz : num * 256 % ten = 0
                              · have z1 : (num * 256 % ten != 0) = false := by simp; exact hz
                                have FIN := Lib.hid (show checkV sg wh (num * 256 / ten) = parseV l by rw [← HF.out, if_pos hz])
                                obtain ⟨v1, v2, hxy⟩ := checkV_parts sg wh (num * 256 / ten)
                                have FX := Lib.hid hxy
                                clear HF hxy hz
                                go_wp2_with fail
                                refine (rchecked_any sg wh (num * 256 / ten) _ hsg hwh2 hpt).mono ?_
                                rintro e w2 ⟨rfl, rfl⟩
                                rw [FX.out]
                                go_wp2
                                refine bodyPost_ret (by simp [results, Tryd.results26, go_sem] <;> rfl) rfl ⟨by rw [← FIN.out, FX.out], rfl⟩
                              · have z1 : (num * 256 % ten != 0) = true := by simp; exact hz
                                have FIN := Lib.hid (show pErr = parseV l by rw [← HF.out, if_neg hz])
                                clear HF hz
                                go_wp2
                                refine bodyPost_ret (by simp [results, Tryd.results26, go_sem] <;> rfl) rfl ⟨by rw [← FIN.out]; rfl, rfl⟩
                · have g2 : decide ((t.size : Int) < 2) = true := by simp; omega
                  have FIN := Lib.hid (show pErr = parseV l by
                    rw [← HN2.out, p2, if_neg]
                    rintro ⟨_, g⟩
                    have := HST.out
                    rw [← size_list t'] at this
                    have := List.length_pos_iff.2 g
                    omega)
                  clear h46
                  go_wp2
                  refine bodyPost_ret (by simp [results, Tryd.results26, go_sem] <;> rfl) rfl ⟨by rw [← FIN.out]; rfl, rfl⟩
              · have g46 : ((c : Int) == 46) = false := by simp; omega
                have n46 : ((c : Int) != 46) = true := by simp; omega
                have FIN := Lib.hid (show pErr = parseV l by
                  rw [← HN2.out, p2, if_neg]
                  rintro ⟨g, _⟩
                  exact h46 (by rw [← HC0.out, g]; rfl))
                clear h46
                go_wp2
                refine bodyPost_ret (by simp [results, Tryd.results26, go_sem] <;> rfl) rfl ⟨by rw [← FIN.out]; rfl, rfl⟩
        · have f1 := nil_of' h0
          have HN := Lib.hid (show (if n = 0 then pErr else checkV sg wh 0) = parseV l by rw [← hp, nil_of h0]; rfl)
          clear hp
          by_cases hn0 : n = 0
          · have FIN := Lib.hid (show pErr = parseV l by rw [← HN.out, if_pos hn0])
            subst hn0
            go_wp2
            refine bodyPost_ret (by simp [results, Tryd.results26, go_sem] <;> rfl) rfl ⟨by rw [← FIN.out]; rfl, rfl⟩
          · have FIN := Lib.hid (show checkV sg wh 0 = parseV l by rw [← HN.out, if_neg hn0])
            obtain ⟨x, y, hxy⟩ := checkV_parts sg wh 0
            have FX := Lib.hid hxy
            have e5 : ((n : Int) == 0) = false := by simp; omega
            clear HN hxy
            go_wp2_with fail
            refine (rchecked_any sg wh 0 _ hsg hwh (by omega)).mono ?_
            rintro e w' ⟨rfl, rfl⟩
            rw [FX.out]
            go_wp2
            refine bodyPost_ret (by simp [results, Tryd.results26, go_sem] <;> rfl) rfl ⟨by rw [← FIN.out, FX.out], rfl⟩

theorem rparse_any (s0 : ByteArray) (w : World) (hs : s0.size < 9223372036854775808) :
    Calls Tryd.prog 26 #[.string s0] w fun e w' => e = .returned (parseV s0.data.toList) ∧ w' = w := by
  by_cases h : s0.size ≤ 30
  · exact rparse_short s0 _ w h rfl
  · have hs1 : decide (30 < (s0.size : Int)) = true := by simp; omega
    have hs2 : decide (30 < s0.size) = true := by simp; omega
    have e : parseV s0.data.toList = pErr := by unfold parseV; rw [if_pos (by rw [size_list]; omega)]
    rw [e]
    clear e
    go_enter Tryd.func26, Tryd.ntmps26
    go_wp2
    refine bodyPost_ret (by simp [results, Tryd.results26, go_sem] <;> rfl) rfl ⟨rfl, rfl⟩
end Go.Proofs.YtjjklchfcklahaaDoor
