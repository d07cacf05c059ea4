/- Whether a path may be: the program's own answer. -/
import Derived.Test.YtjjklchfcklahaaDoorPthT
import Derived.Test.YtjjklchfcklahaaDoorSegs
import Derived.Test.YtjjklchfcklahaaDoorRef7D
import Derived.Test.YtjjklchfcklahaaDoorLawLib
namespace Go.Proofs.YtjjklchfcklahaaDoor
open Go.RowKit
set_option linter.unusedVariables false
set_option linter.unusedSimpArgs false
set_option maxHeartbeats 4000000
set_option maxRecDepth 100000

theorem q7verbs_any (A : Option Addr) (cv : Nat) (vs : List Int) (w : World) (hT : Tab7 w) (hr : Vals w w.heap.size A (vs.map iV)) (hl : vs.length ≤ 9223372036854775807) :
    Calls Tryd.prog 28 #[.slice A vs.length cv] w fun e w' => e = .returned (.int .i64 (chk 5 vs)) ∧ Below w.heap.size w w' := by
  have HR := Lib.hid hr
  have HT := Lib.hid hT
  clear hr hT
  obtain ⟨L, hL⟩ : ∃ L, vs.length = L := ⟨_, rfl⟩
  rw [hL] at hl ⊢
  have HL := Lib.hid hL
  clear hL
  go_enter Tryd.func28, Tryd.ntmps28
  go_wp2_with fail
  go_loopw [3, 8] (fun s3 s8 wr => ∃ (i : Nat) (p : Int), s3 = .int .i64 p ∧ s8 = .int .i64 i ∧ i ≤ L ∧ chk 5 vs = chk p (vs.drop i) ∧ Below w.heap.size w wr) (fun _ s8 _ => L - (intOf s8).toNat)
  case atStart => exact ⟨0, 5, rfl, rfl, Nat.zero_le _, rfl, Below.refl _ _⟩
  case round =>
    obtain ⟨i, p, rfl, rfl, hi, hnc, hb⟩ := hrel
    have HNC := Lib.hid hnc
    clear hnc
    by_cases hlt : i < L
    · obtain ⟨v, hv⟩ : ∃ v, vs[i]? = some v := ⟨_, List.getElem?_eq_getElem (by rw [HL.out]; exact hlt)⟩
      obtain ⟨ad, rfl, hB, c3⟩ := ints_at (HR.out.step hb) hv
      have HC := Lib.hid (HNC.out.trans (chk_drop hv))
      obtain ⟨k, hk⟩ : ∃ k, takesV v = k := ⟨_, rfl⟩
      have TK0 := q7takes_any v wr (HT.out.step hb)
      rw [hk] at TK0
      have TK := Lib.hid TK0
      have HK := Lib.hid hk
      have q3 : decide ((i : Int) < (L : Int)) = true := by simp; omega
      have q4 : (0 : Int) ≤ (i : Int) := by omega
      have q5 : (i : Int) < (L : Int) := by omega
      have q6 : IntKind.i64.wrap ((i : Int) + 1) = (i : Int) + 1 := IntWalk.i64_in _ (by omega)
      have had : (ad.add i).block < w.heap.size := by rw [block_add]; exact hB
      clear TK0 hk hv
      go_wp2_with fail
      refine (TK.out).mono ?_
      rintro e w2 ⟨rfl, h2⟩
      have hb2 := hb.trans (h2.mono hb.size)
      clear h2
      by_cases hk0 : k < 0
      · have F := Lib.hid (show chk 5 vs = 1 from HC.out.trans (if_pos (by rw [HK.out]; exact hk0)))
        have q8 : decide (k < 0) = true := by simpa using hk0
        go_wp2
        go_ret
        exact ⟨by rw [F.out]; rfl, hb2⟩
      · have q8 : decide (k < 0) = false := by simpa using hk0
        have HC2 := Lib.hid (HC.out.trans (if_neg (by rw [HK.out]; exact hk0)))
        by_cases hv1 : v = 1
        · have q9 : (v != 1) = false := by simpa using hv1
          have F := Lib.hid (show chk 5 vs = chk v (vs.drop (i + 1)) from HC2.out.trans (if_neg (by rintro ⟨a, _⟩; exact a hv1)))
          clear hv1
          go_wp2
          go_roundw
          case rel => exact ⟨i + 1, v, rfl, by go_num, by omega, F.out, hb2⟩
          case measure => simp [intOf]; omega
        · have q9 : (v != 1) = true := by simpa using hv1
          by_cases hp5 : p = 5
          · have q14 : (p == 5) = true := by simpa using hp5
            have F := Lib.hid (show chk 5 vs = 70 from HC2.out.trans (if_pos ⟨hv1, hp5⟩))
            clear hp5
            go_wp2
            go_ret
            exact ⟨by rw [F.out]; rfl, hb2⟩
          · have q14 : (p == 5) = false := by simpa using hp5
            have F := Lib.hid (show chk 5 vs = chk v (vs.drop (i + 1)) from HC2.out.trans (if_neg (by rintro ⟨_, a⟩; exact hp5 a)))
            go_wp2
            go_roundw
            case rel => exact ⟨i + 1, v, rfl, by go_num, by omega, F.out, hb2⟩
            case measure => simp [intOf]; omega
    · obtain rfl : i = L := by omega
      have F := Lib.hid (show chk 5 vs = 0 by rw [HNC.out, ← HL.out, List.drop_length]; rfl)
      have q3 : decide ((i : Int) < (i : Int)) = false := by simp
      go_wp2
      go_ret
      exact ⟨by rw [F.out]; rfl, hb⟩

theorem q7taken_any (A : Option Addr) (cv : Nat) (vs : List Int) (w : World) (hT : Tab7 w) (hr : Vals w w.heap.size A (vs.map iV)) (hl : vs.length ≤ 1000000) :
    Calls Tryd.prog 29 #[.slice A vs.length cv] w fun e w' => e = .returned (.int .i64 (needs vs)) ∧ Below w.heap.size w w' := by
  have HR := Lib.hid hr
  have HT := Lib.hid hT
  clear hr hT
  obtain ⟨L, hL⟩ : ∃ L, vs.length = L := ⟨_, rfl⟩
  rw [hL] at hl ⊢
  have HL := Lib.hid hL
  clear hL
  go_enter Tryd.func29, Tryd.ntmps29
  go_wp2_with fail
  go_loopw [3, 8] (fun s3 s8 wr => ∃ (i : Nat) (n : Int), s3 = .int .i64 n ∧ s8 = .int .i64 i ∧ i ≤ L ∧ (-(i : Int) ≤ n ∧ n ≤ 3 * i) ∧ n + needs (vs.drop i) = needs vs ∧ Below w.heap.size w wr) (fun _ s8 _ => L - (intOf s8).toNat)
  case atStart => exact ⟨0, 0, rfl, rfl, Nat.zero_le _, by omega, by simp, Below.refl _ _⟩
  case round =>
    obtain ⟨i, n, rfl, rfl, hi, hn, hnc, hb⟩ := hrel
    have HNC := Lib.hid hnc
    clear hnc
    by_cases hlt : i < L
    · obtain ⟨v, hv⟩ : ∃ v, vs[i]? = some v := ⟨_, List.getElem?_eq_getElem (by rw [HL.out]; exact hlt)⟩
      obtain ⟨ad, rfl, hB, c3⟩ := ints_at (HR.out.step hb) hv
      have HN := Lib.hid (needs_drop hv)
      obtain ⟨k, hk⟩ : ∃ k, takesV v = k := ⟨_, rfl⟩
      have hkb := takes_bd v
      rw [hk] at hkb
      have TK0 := q7takes_any v wr (HT.out.step hb)
      rw [hk] at TK0
      have TK := Lib.hid TK0
      have HK := Lib.hid hk
      have q3 : decide ((i : Int) < (L : Int)) = true := by simp; omega
      have q4 : (0 : Int) ≤ (i : Int) := by omega
      have q5 : (i : Int) < (L : Int) := by omega
      have q6 : IntKind.i64.wrap ((i : Int) + 1) = (i : Int) + 1 := IntWalk.i64_in _ (by omega)
      have q7 : IntKind.i64.wrap (n + k) = n + k := IntWalk.i64_in _ (by omega)
      have had : (ad.add i).block < w.heap.size := by rw [block_add]; exact hB
      clear TK0 hk hv
      go_wp2_with fail
      refine (TK.out).mono ?_
      rintro e w2 ⟨rfl, h2⟩
      have hb2 := hb.trans (h2.mono hb.size)
      clear h2
      go_wp2
      go_roundw
      case rel => exact ⟨i + 1, n + k, by go_num, by go_num, by omega, by omega, by have := HNC.out; rw [HN.out, HK.out] at this; omega, hb2⟩
      case measure => simp [intOf]; omega
    · obtain rfl : i = L := by omega
      have F := Lib.hid (show needs vs = n by have := HNC.out; rw [← HL.out, List.drop_length, needs] at this; omega)
      have q3 : decide ((i : Int) < (i : Int)) = false := by simp
      go_wp2
      go_ret
      exact ⟨by rw [F.out]; rfl, hb⟩

/-- Where the first far point is; -1: nowhere. -/
def farAt : Nat → List Pnt → Int
  | _, [] => -1
  | i, p :: t => if farV p = true then i else farAt (i + 1) t
theorem farAt_any : ∀ (l : List Pnt) (i : Nat), (decide (0 ≤ farAt i l)) = l.any farV := by
  intro l
  induction l with
  | nil => intro i; rfl
  | cons p t ih =>
    intro i
    unfold farAt
    rw [List.any_cons]
    cases farV p
    · simpa using ih (i + 1)
    · simp
theorem q7index_any (A : Option Addr) (cp : Nat) (ps : List Pnt) (w : World) (hq : Cor w w.heap.size A ps) (hp : ps.length ≤ 9223372036854775807) :
    Calls Tryd.prog 47 #[.slice A ps.length cp, .func (.func 31) #[] #[]] w fun e w' => e = .returned (.int .i64 (farAt 0 ps)) ∧ Below w.heap.size w w' := by
  have HQ := Lib.hid hq
  clear hq
  obtain ⟨M, hM⟩ : ∃ M, ps.length = M := ⟨_, rfl⟩
  rw [hM] at hp ⊢
  have HM := Lib.hid hM
  clear hM
  go_enter Tryd.func47, Tryd.ntmps47
  go_wp2_with fail
  go_loopw [8] (fun s8 wr => ∃ i : Nat, s8 = .int .i64 i ∧ i ≤ M ∧ farAt 0 ps = farAt i (ps.drop i) ∧ Below w.heap.size w wr) (fun s8 _ => M - (intOf s8).toNat)
  case atStart => exact ⟨0, rfl, Nat.zero_le _, rfl, Below.refl _ _⟩
  case round =>
    obtain ⟨i, rfl, hi, hja, hb⟩ := hrel
    have HJ := Lib.hid hja
    clear hja
    by_cases hlt : i < M
    · obtain ⟨⟨x, y⟩, hpt⟩ : ∃ p, ps[i]? = some p := ⟨_, List.getElem?_eq_getElem (by rw [HM.out]; exact hlt)⟩
      obtain ⟨ad, rfl, hB, c3, c4⟩ := (HQ.out.step hb).at_ hpt
      dsimp only at c3 c4
      obtain ⟨b, hbb⟩ : ∃ b, farV (x, y) = b := ⟨_, rfl⟩
      have HD := Lib.hid (show farAt 0 ps = if b = true then (i : Int) else farAt (i + 1) (ps.drop (i + 1)) by rw [HJ.out, drop_at hpt, farAt, hbb])
      have FR0 := fun w => q7far_any x y w
      simp only [hbb] at FR0
      have FR := Lib.hid FR0
      have q5 : decide ((i : Int) < (M : Int)) = true := by simp; omega
      have q6 : (0 : Int) ≤ (i : Int) := by omega
      have q7 : (i : Int) < (M : Int) := by omega
      have q8 : IntKind.i64.wrap ((i : Int) + 1) = (i : Int) + 1 := IntWalk.i64_in _ (by omega)
      have eg : ∀ args w, (callFunc 31 args).run Tryd.prog w = .ok (.enter 31 args) w := enters_of Tryd.func31 (by kernel_rfl) rfl
      clear FR0 hpt hbb
      go_wp2_with fail
      go_at_fn 31
      refine (FR.out _).mono ?_
      rintro e w2 ⟨rfl, h2⟩
      have hb2 := hb.trans (h2.mono hb.size)
      clear h2
      cases b
      · have F := Lib.hid (show farAt 0 ps = farAt (i + 1) (ps.drop (i + 1)) from HD.out)
        go_wp2
        go_roundw
        case rel =>
          exact ⟨i + 1, by go_num, by omega, F.out, hb2⟩
        case measure => simp [intOf]; omega
      · have F := Lib.hid (show farAt 0 ps = i from HD.out)
        go_wp2
        go_ret
        exact ⟨by rw [F.out]; rfl, hb2⟩
    · obtain rfl : i = M := by omega
      have F := Lib.hid (show farAt 0 ps = -1 by rw [HJ.out, ← HM.out, List.drop_length]; rfl)
      have q5 : decide ((i : Int) < (i : Int)) = false := by simp
      go_wp2
      go_ret
      exact ⟨by rw [F.out]; rfl, hb⟩
theorem q7contains_any (A : Option Addr) (cp : Nat) (ps : List Pnt) (w : World) (hq : Cor w w.heap.size A ps) (hp : ps.length ≤ 9223372036854775807) :
    Calls Tryd.prog 30 #[.slice A ps.length cp, .func (.func 31) #[] #[]] w fun e w' => e = .returned (.bool (ps.any farV)) ∧ Below w.heap.size w w' := by
  have C0 := q7index_any A cp ps w hq hp
  have F := farAt_any ps 0
  obtain ⟨k, hk⟩ : ∃ k, farAt 0 ps = k := ⟨_, rfl⟩
  rw [hk] at C0 F
  have C := Lib.hid C0
  have q1 : decide (k ≥ 0) = ps.any farV := F
  obtain ⟨b, hb⟩ : ∃ b, ps.any farV = b := ⟨_, rfl⟩
  rw [hb] at F q1 ⊢
  clear C0 hk hb hq hp
  go_enter Tryd.func30, Tryd.ntmps30
  go_wp2_with (go_at_call 47; refine (C.out).mono ?_; rintro e w2 ⟨rfl, h2⟩)
  go_ret
  exact ⟨rfl, h2⟩

theorem q7check_any (A B : Option Addr) (cv cp : Nat) (vs : List Int) (ps : List Pnt) (w : World) (hT : Tab7 w) (hr : Vals w w.heap.size A (vs.map iV)) (hq : Cor w w.heap.size B ps) (hl : vs.length ≤ 9223372036854775807) (hp : ps.length ≤ 9223372036854775807) :
    Calls Tryd.prog 16 #[PathA A vs.length cv B ps.length cp] w fun e w' => e = .returned (.int .i64 (pathE vs ps)) ∧ Below w.heap.size w w' := by
  have H0 := Lib.hid (show Below w.heap.size w (w.alloc (.cells #[.slice A vs.length cv, .slice B ps.length cp] 25)) from (Below.refl _ w).alloc (Nat.le_refl _) _)
  have hr1 := hr.calls H0.out
  have hq1 := (hq.step H0.out).more H0.out.size
  have hT1 := hT.step H0.out
  have c0 : (w.alloc (.cells #[.slice A vs.length cv, .slice B ps.length cp] 25)).cell? ⟨w.heap.size, 0, none⟩ = some (.slice A vs.length cv) := by simp
  have c1 : (w.alloc (.cells #[.slice A vs.length cv, .slice B ps.length cp] 25)).cell? ⟨w.heap.size, 1, none⟩ = some (.slice B ps.length cp) := by simp
  obtain ⟨w1, hw1⟩ : ∃ w1, w.alloc (.cells #[.slice A vs.length cv, .slice B ps.length cp] 25) = w1 := ⟨_, rfl⟩
  have hs1 : w1.heap.size = w.heap.size + 1 := by rw [← hw1]; simp
  rw [hw1] at hr1 hq1 hT1 c0 c1
  have HQ0 := Lib.hid hq
  have HB := Lib.hid (show Below w.heap.size w w1 from by rw [← hw1]; exact H0.out)
  have HR := Lib.hid hr1
  have HQ := Lib.hid hq1
  have HT := Lib.hid hT1
  clear H0 hr hq hT hr1 hq1 hT1
  obtain ⟨L, hL⟩ : ∃ L, vs.length = L := ⟨_, rfl⟩
  obtain ⟨M, hM⟩ : ∃ M, ps.length = M := ⟨_, rfl⟩
  rw [hL] at hl c0 hw1 ⊢
  rw [hM] at hp c1 hw1 ⊢
  have HL := Lib.hid hL
  have HM := Lib.hid hM
  clear hL hM
  by_cases h512 : 512 < L
  · have F := Lib.hid (check_many (ps := ps) (show 512 < vs.length by rw [HL.out]; exact h512))
    have q1 : decide ((L : Int) > 512) = true := by simp; omega
    have q2 : decide ((512 : Int) < (L : Int)) = true := by simp; omega
    go_enter Tryd.func16, Tryd.ntmps16
    go_wp2
    go_ret
    exact ⟨by rw [F.out]; rfl, HB.out⟩
  · have H5 := Lib.hid (show ¬ 512 < vs.length by rw [HL.out]; exact h512)
    have q1 : decide ((L : Int) > 512) = false := by simp; omega
    have q2 : decide ((512 : Int) < (L : Int)) = false := by simp; omega
    have CV0 := q7verbs_any A cv vs w1 HT.out HR.out (by rw [HL.out]; omega)
    rw [HL.out] at CV0
    obtain ⟨k, hk⟩ : ∃ k, chk 5 vs = k := ⟨_, rfl⟩
    rw [hk] at CV0
    have HK := Lib.hid hk
    have CV := Lib.hid CV0
    clear CV0 hk
    go_enter Tryd.func16, Tryd.ntmps16
    go_wp2_with fail
    refine (CV.out).mono ?_
    rintro e w2 ⟨rfl, h2⟩
    have d0 := (h2.cell (p := ⟨w.heap.size, 0, none⟩) (by dsimp only; omega)).trans c0
    have d1 := (h2.cell (p := ⟨w.heap.size, 1, none⟩) (by dsimp only; omega)).trans c1
    have hs2 := h2.size
    have HB2 := Lib.hid (HB.out.trans (h2.mono (by omega)))
    have HT2 := Lib.hid (HT.out.step h2)
    have HR2 := Lib.hid (HR.out.calls h2)
    have HQ2 := Lib.hid ((HQ.out.step h2).more h2.size)
    clear h2 c0 c1 hw1
    by_cases hk0 : k = 0
    · subst hk0
      have CT0 := fun W (hb : Below w2.heap.size w2 W) => q7taken_any A cv vs W (HT2.out.step hb) (HR2.out.calls hb) (by rw [HL.out]; omega)
      simp only [HL.out] at CT0
      obtain ⟨n, hn⟩ : ∃ n, needs vs = n := ⟨_, rfl⟩
      simp only [hn] at CT0
      have hg := check_good (ps := ps) H5.out HK.out
      rw [hn, HM.out] at hg
      have HG := Lib.hid hg
      have CT := Lib.hid CT0
      clear CT0 hn hg
      have c1 := d0
      have c2 := d1
      have hb0 := HB2.out
      have hs : w.heap.size + 1 ≤ w2.heap.size := by omega
      clear d0 d1
      by_cases hnM : n = (M : Int)
      · subst hnM
        have q4 : ((M : Int) != (M : Int)) = false := by simp
        obtain ⟨fa, hfa⟩ : ∃ b, ps.any farV = b := ⟨_, rfl⟩
        have F := Lib.hid (show pathE vs ps = if fa = true then 72 else 0 by rw [HG.out, if_neg (by simp), hfa])
        have CC0 := fun W (hb : Below w.heap.size w W) => q7contains_any B cp ps W ((HQ0.out.step hb).more hb.size) (by rw [HM.out]; omega)
        simp only [HM.out, hfa] at CC0
        have CC := Lib.hid CC0
        clear CC0 hfa
        go_wp2_with fail
        first | (go_region_held3 (fun w' => w'.cell? ⟨w.heap.size, 0, none⟩ = some (.slice A L cv) ∧ w'.cell? ⟨w.heap.size, 1, none⟩ = some (.slice B M cp) ∧ Below w2.heap.size w2 w') ((first | assumption | exact ⟨by simp [*], by simp [*], (Below.refl _ _).drew⟩ | exact keep2 ‹_› hb (by (try dsimp only); omega) (by (try dsimp only); omega) | exact keepA2 ‹_› _ (by (try dsimp only); omega) (by (try dsimp only); omega) | exact keepS2 (keepS2 ‹_› _ _ (by (try dsimp only); omega) (by (try dsimp only); omega) (by (try dsimp only); omega)) _ _ (by (try dsimp only); omega) (by (try dsimp only); omega) (by (try dsimp only); omega))) ((first | (go_at_call 29; refine (CT.out _ (by exact belK2 (by assumption))).mono ?_; rintro e w' ⟨rfl, hb⟩)))) | fail
        all_goals
          refine any_gen (fun z => z.cell? ⟨w.heap.size, 0, none⟩ = some (.slice A L cv) ∧ z.cell? ⟨w.heap.size, 1, none⟩ = some (.slice B M cp) ∧ w2.heap.size ≤ z.heap.size ∧ Below w.heap.size w z) (next2 ‹_ ∧ _› (by omega) hb0) ?_
          clear c1 c2 hb0
          rintro w4 ⟨c1, c2, hsz, hb0⟩
          replace hs := Nat.le_trans hs hsz
          clear hsz
          go_wp2_with fail
          refine (CC.out _ hb0).mono ?_
          rintro e w5 ⟨rfl, h5⟩
          have hb5 := hb0.trans (h5.mono (by omega))
          cases fa
          all_goals
            go_wp2
            go_ret
            exact ⟨by rw [F.out]; rfl, hb5⟩
      · have q4 : ((M : Int) != n) = true := by simp; omega
        have F := Lib.hid (show pathE vs ps = 71 by rw [HG.out, if_pos (by simpa using hnM)])
        go_wp2_with fail
        first | (go_region_held3 (fun w' => w'.cell? ⟨w.heap.size, 0, none⟩ = some (.slice A L cv) ∧ w'.cell? ⟨w.heap.size, 1, none⟩ = some (.slice B M cp) ∧ Below w2.heap.size w2 w') ((first | assumption | exact ⟨by simp [*], by simp [*], (Below.refl _ _).drew⟩ | exact keep2 ‹_› hb (by (try dsimp only); omega) (by (try dsimp only); omega) | exact keepA2 ‹_› _ (by (try dsimp only); omega) (by (try dsimp only); omega) | exact keepS2 (keepS2 ‹_› _ _ (by (try dsimp only); omega) (by (try dsimp only); omega) (by (try dsimp only); omega)) _ _ (by (try dsimp only); omega) (by (try dsimp only); omega) (by (try dsimp only); omega))) ((first | (go_at_call 29; refine (CT.out _ (by exact belK2 (by assumption))).mono ?_; rintro e w' ⟨rfl, hb⟩)))) | fail
        all_goals
          refine any_gen (fun z => z.cell? ⟨w.heap.size, 0, none⟩ = some (.slice A L cv) ∧ z.cell? ⟨w.heap.size, 1, none⟩ = some (.slice B M cp) ∧ w2.heap.size ≤ z.heap.size ∧ Below w.heap.size w z) (next2 ‹_ ∧ _› (by omega) hb0) ?_
          clear c1 c2 hb0
          rintro w4 ⟨c1, c2, hsz, hb0⟩
          replace hs := Nat.le_trans hs hsz
          clear hsz
          go_wp2
          go_ret
          exact ⟨by rw [F.out]; rfl, hb0⟩
    · have F := Lib.hid (check_bad2 (ps := ps) H5.out HK.out hk0)
      have q8 : (k != 0) = true := by simpa using hk0
      go_wp2
      go_ret
      exact ⟨by rw [F.out]; rfl, HB2.out⟩
end Go.Proofs.YtjjklchfcklahaaDoor
