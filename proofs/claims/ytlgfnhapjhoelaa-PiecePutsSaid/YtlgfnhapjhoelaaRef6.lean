/- What the document's own layer 6 answers of corners: Area, Convex, Has. -/
import Derived.Test.YtlgfnhapjhoelaaCorn
import Derived.Test.YtlgfnhapjhoelaaRef5
namespace Go.Proofs.Ytlgfnhapjhoelaa
open Go.RowKit
set_option linter.unusedVariables false
set_option linter.unusedSimpArgs false
set_option maxHeartbeats 8000000
set_option maxRecDepth 100000

theorem near_at {l : List Pnt} (h : allNear l = true) {i : Nat} {x y : Int} (hp : l[i]? = some (x, y)) : (-1073741824 ≤ x ∧ x ≤ 1073741824) ∧ (-1073741824 ≤ y ∧ y ≤ 1073741824) :=
  nearB_iff.1 (List.all_eq_true.1 h _ (List.mem_of_getElem? hp))
theorem next_num (k L : Nat) (hk : k < L) (hl : L < 4611686018427387904) : Int.tmod (IntKind.i64.wrap ((k : Int) + 1)) (L : Int) = (((k + 1) % L : Nat) : Int) := by
  rw [IntWalk.i64_in _ (by omega), Int.tmod_eq_emod_of_nonneg (by omega), show (k : Int) + 1 = ((k + 1 : Nat) : Int) by omega]
  exact (Int.natCast_emod _ _).symm

theorem r6area_any (A : Option Addr) (cap : Nat) (l : List Pnt) (w : World) (hr : Cor w w.heap.size A l) (hl : l.length < 4611686018427387904) (hn : allNear l = true) :
    Calls Try.prog 14 #[.slice A l.length cap] w fun e w' => e = .returned (.int .i64 (areaV l)) ∧ Below w.heap.size w w' := by
  have HR := Lib.hid hr
  have HN := Lib.hid hn
  clear hr hn
  obtain ⟨L, hL⟩ : ∃ L, l.length = L := ⟨_, rfl⟩
  rw [hL] at hl ⊢
  have HL := Lib.hid hL
  clear hL
  go_enter Try.func14, Try.ntmps14
  go_wp2
  go_loopw [3, 4] (fun s3 s4 wr => ∃ (k : Nat) (n : Int), s4 = .int .i64 k ∧ s3 = .int .i64 n ∧ k ≤ L ∧ n = wrapA (areaTo l k) ∧ Below w.heap.size w wr) (fun _ s4 _ => L - (intOf s4).toNat)
  case atStart => exact ⟨0, 0, rfl, rfl, Nat.zero_le _, rfl, Below.refl _ _⟩
  case round =>
    obtain ⟨k, n, rfl, rfl, hk, hn, hbW⟩ := hrel
    by_cases hlt : k < L
    · obtain ⟨j, hj⟩ : ∃ j, (k + 1) % L = j := ⟨_, rfl⟩
      have hjL : j < L := by rw [← hj]; exact Nat.mod_lt _ (by omega)
      obtain ⟨⟨x, y⟩, hp⟩ : ∃ p, l[k]? = some p := ⟨_, List.getElem?_eq_getElem (by rw [HL.out]; exact hlt)⟩
      obtain ⟨⟨u, v⟩, hq⟩ : ∃ p, l[j]? = some p := ⟨_, List.getElem?_eq_getElem (by rw [HL.out]; exact hjL)⟩
      obtain ⟨ad, rfl, hB, c1, c2⟩ := (HR.out.step hbW).at_ hp
      obtain ⟨ad2, e2, _, c3, c4⟩ := (HR.out.step hbW).at_ hq
      obtain rfl := Option.some.inj e2
      dsimp only at c1 c2 c3 c4
      obtain ⟨hx, hy⟩ := near_at HN.out hp
      obtain ⟨hu, hv⟩ := near_at HN.out hq
      have he := edge_at hp (by rw [HL.out, hj]; exact hq)
      have hst := areaTo_step he
      obtain ⟨c, hc⟩ : ∃ c, x * v - y * u = c := ⟨_, rfl⟩
      obtain ⟨m, hm⟩ : ∃ m, wrapA (areaTo l (k + 1)) = m := ⟨_, rfl⟩
      have e1 : IntKind.i64.wrap (n + c) = m := by
        rw [IntKind.wrap_i64, ← hm, hst, hn, ← wrapA_add]
        show _ = wrapA (_ + crossP ((x, y), (u, v)))
        rw [show crossP ((x, y), (u, v)) = c from hc]; rfl
      have HM := Lib.hid hm
      have e3 := next_num k L hlt hl
      rw [hj] at e3
      have e4 : IntKind.i64.wrap ((k : Int) + 1) = (k : Int) + 1 := IntWalk.i64_in _ (by omega)
      have e5 : IntKind.i64.wrap (j : Int) = (j : Int) := IntWalk.i64_in _ (by omega)
      have e6 : Int.tmod ((k : Int) + 1) (L : Int) = (j : Int) := by rw [← e4]; exact e3
      have q1 : decide ((k : Int) < (L : Int)) = true := by simp; omega
      have q2 : (0 : Int) ≤ (k : Int) := by omega
      have q3 : (k : Int) < (L : Int) := by omega
      have q4 : (0 : Int) ≤ (j : Int) := by omega
      have q5 : (j : Int) < (L : Int) := by omega
      have q6 : ¬ (L : Int) = 0 := by omega
      have q8 : ¬ L = 0 := by omega
      have q7 : ((L : Int) == 0) = false := by simp; omega
      have hk1 : (ad.add (k * 2)).block < w.heap.size := by rw [block_add]; exact hB
      have hk2 : (ad.add (k * 2)).block < w.heap.size := by rw [block_add]; exact hB
      have hk3 : (ad.add (j * 2)).block < w.heap.size := by rw [block_add]; exact hB
      have hk4 : (ad.add (j * 2)).block < w.heap.size := by rw [block_add]; exact hB
      have hz := hbW.size
      have CR0 := fun w => r4cross_any x y u v w hx hy hu hv
      simp only [hc] at CR0
      have CR := Lib.hid CR0
      clear CR0 hp hq hx hy hu hv he hst hc hm hj e3 hn
      go_upto_region 5 with fail
      go_region_held3 (fun w' => w'.cell? (ad.add (k * 2)) = some (.int .i64 (x)) ∧ w'.cell? ⟨(ad.add (k * 2)).block, (ad.add (k * 2)).off + 1, none⟩ = some (.int .i64 (y)) ∧ w'.cell? (ad.add (j * 2)) = some (.int .i64 (u)) ∧ w'.cell? ⟨(ad.add (j * 2)).block, (ad.add (j * 2)).off + 1, none⟩ = some (.int .i64 (v)) ∧ Below wr.heap.size wr w') ((first | assumption | exact ⟨by simp [*], by simp [*], by simp [*], by simp [*], (Below.refl _ _).drew⟩ | exact keep4 ‹_› hb (by (try dsimp only); omega) (by (try dsimp only); omega) (by (try dsimp only); omega) (by (try dsimp only); omega) | exact keepA4 ‹_› _ (by (try dsimp only); omega) (by (try dsimp only); omega) (by (try dsimp only); omega) (by (try dsimp only); omega) | exact keepS4 (keepS4 ‹_› _ _ (by (try dsimp only); omega) (by (try dsimp only); omega) (by (try dsimp only); omega) (by (try dsimp only); omega) (by (try dsimp only); omega)) _ _ (by (try dsimp only); omega) (by (try dsimp only); omega) (by (try dsimp only); omega) (by (try dsimp only); omega) (by (try dsimp only); omega))) ((first | (go_at_call 31; with_reducible refine (CR.out _).mono ?_; rintro e w' ⟨rfl, hb⟩)))
      all_goals
        have hF := belK4 ‹_ ∧ _ ∧ _ ∧ _ ∧ Below wr.heap.size wr _›
        go_wp2
        go_roundw
        case rel => exact ⟨k + 1, m, by go_num, rfl, by omega, HM.out.symm, hbW.trans (hF.mono hz)⟩
        case measure => simp [intOf]; omega
    · have F := Lib.hid (show areaV l = n by rw [hn, show k = L by omega, ← HL.out, areaTo_end]; rfl)
      have q1 : decide ((k : Int) < (L : Int)) = false := by simp; omega
      clear hn
      go_wp2
      go_ret
      exact ⟨by rw [F.out]; rfl, hbW⟩

theorem all_take {α : Type} (l : List α) (f : α → Bool) (k : Nat) {p : α} (hp : l[k]? = some p) (h : (l.take k).all f = true) (hf : f p = true) : (l.take (k + 1)).all f = true := by
  have hk := (List.getElem?_eq_some_iff.1 hp).1
  rw [List.take_succ_eq_append_getElem hk, List.all_append, h, (List.getElem?_eq_some_iff.1 hp).2]
  simp [hf]
theorem all_not {α : Type} (l : List α) (f : α → Bool) {p : α} (hp : p ∈ l) (hf : f p = false) : l.all f = false := by
  rw [Bool.eq_false_iff]; intro g; rw [List.all_eq_true] at g; rw [g p hp] at hf; cases hf
theorem convex_no {l : List Pnt} {e : Pnt × Pnt} {c : Pnt} (he : e ∈ edges l) (hc : c ∈ l) (h : leftOf1 c e = false) : convexV l = false := by
  unfold convexV; rw [all_not (edges l) _ he (all_not l _ hc h), Bool.and_false]
theorem left_side (c : Pnt) (x y u v s : Int) (h : sideV x y u v c.1 c.2 = s) : leftOf1 c ((x, y), (u, v)) = !decide (s < 0) := by
  unfold leftOf1
  rw [h, ← decide_not, decide_eq_decide]; omega

theorem r6convex_any (A : Option Addr) (cap : Nat) (l : List Pnt) (w : World) (hr : Cor w w.heap.size A l) (hl : l.length < 4611686018427387904) (hn : allNear l = true) :
    Calls Try.prog 16 #[.slice A l.length cap] w fun e w' => e = .returned (.bool (convexV l)) ∧ Below w.heap.size w w' := by
  have AR0 := fun w hr => r6area_any A cap l w hr hl hn
  have HR := Lib.hid hr
  have HN := Lib.hid hn
  clear hr hn
  obtain ⟨L, hL⟩ : ∃ L, l.length = L := ⟨_, rfl⟩
  obtain ⟨V, hV⟩ : ∃ V, areaV l = V := ⟨_, rfl⟩
  rw [hL] at hl AR0 ⊢
  simp only [hV] at AR0
  have AR := Lib.hid AR0
  have HL := Lib.hid hL
  have HV := Lib.hid hV
  clear hL hV AR0
  by_cases h3 : L < 3
  · have q1 : decide ((L : Int) < 3) = true := by simp; omega
    have F := Lib.hid (show convexV l = false by unfold convexV; rw [HL.out, show decide (3 ≤ L) = false by simp; omega]; rfl)
    go_enter Try.func16, Try.ntmps16
    go_wp2
    go_ret
    exact ⟨by rw [F.out]; rfl, Below.refl _ _⟩
  · have q1 : decide ((L : Int) < 3) = false := by simp; omega
    by_cases hV0 : V ≤ 0
    · have q2 : decide (V ≤ 0) = true := by simpa using hV0
      have F := Lib.hid (show convexV l = false by unfold convexV; rw [HV.out, show decide (0 < V) = false by simp; omega, Bool.and_false]; rfl)
      clear hV0
      go_enter Try.func16, Try.ntmps16
      go_wp2_with fail
      refine (AR.out _ HR.out).mono ?_
      rintro e w1 ⟨rfl, h1⟩
      go_wp2
      go_ret
      exact ⟨by rw [F.out]; rfl, h1⟩
    · have q2 : decide (V ≤ 0) = false := by simpa using hV0
      have HG := Lib.hid (show convexV l = (edges l).all (fun e => l.all fun c => leftOf1 c e) by
        unfold convexV; rw [HL.out, HV.out, show decide (3 ≤ L) = true by simp; omega, show decide (0 < V) = true by simp; omega]; rfl)
      clear hV0
      go_enter Try.func16, Try.ntmps16
      go_wp2_with fail
      refine (AR.out _ HR.out).mono ?_
      rintro e w1 ⟨rfl, h1⟩
      go_wp2
      go_loopw [3] (fun s3 wr => ∃ k : Nat, s3 = .int .i64 k ∧ k ≤ L ∧ ((edges l).take k).all (fun e => l.all fun c => leftOf1 c e) = true ∧ Below w.heap.size w wr) (fun s3 _ => L - (intOf s3).toNat)
      case atStart => exact ⟨0, rfl, Nat.zero_le _, rfl, h1⟩
      case round =>
        clear h1
        obtain ⟨k, rfl, hk, ha, hbO⟩ := hrel
        by_cases hlt : k < L
        · have HA := Lib.hid ha
          clear ha
          obtain ⟨j, hj⟩ : ∃ j, (k + 1) % L = j := ⟨_, rfl⟩
          have hjL : j < L := by rw [← hj]; exact Nat.mod_lt _ (by omega)
          obtain ⟨⟨x, y⟩, hp⟩ : ∃ p, l[k]? = some p := ⟨_, List.getElem?_eq_getElem (by rw [HL.out]; exact hlt)⟩
          obtain ⟨⟨u, v⟩, hq⟩ : ∃ p, l[j]? = some p := ⟨_, List.getElem?_eq_getElem (by rw [HL.out]; exact hjL)⟩
          obtain ⟨hx, hy⟩ := near_at HN.out hp
          obtain ⟨hu, hv⟩ := near_at HN.out hq
          have he := edge_at hp (by rw [HL.out, hj]; exact hq)
          have e3 := next_num k L hlt hl
          rw [hj] at e3
          have e4 : IntKind.i64.wrap ((k : Int) + 1) = (k : Int) + 1 := IntWalk.i64_in _ (by omega)
          have e5 : IntKind.i64.wrap (j : Int) = (j : Int) := IntWalk.i64_in _ (by omega)
          have e6 : Int.tmod ((k : Int) + 1) (L : Int) = (j : Int) := by rw [← e4]; exact e3
          have q1 : decide ((k : Int) < (L : Int)) = true := by simp; omega
          have q2 : (0 : Int) ≤ (k : Int) := by omega
          have q3 : (k : Int) < (L : Int) := by omega
          have q4 : (0 : Int) ≤ (j : Int) := by omega
          have q5 : (j : Int) < (L : Int) := by omega
          have q6 : ¬ (L : Int) = 0 := by omega
          have q8 : ¬ L = 0 := by omega
          have q7 : ((L : Int) == 0) = false := by simp; omega
          have HP := Lib.hid hp
          have HQ := Lib.hid hq
          have HE := Lib.hid he
          have HXY := Lib.hid (And.intro (And.intro hx hy) (And.intro hu hv))
          clear hp hq he hx hy hu hv hj e3
          go_wp2
          go_loopw [4] (fun s4 wr => ∃ m : Nat, s4 = .int .i64 m ∧ m ≤ L ∧ (l.take m).all (fun c => leftOf1 c ((x, y), (u, v))) = true ∧ Below w.heap.size w wr) (fun s4 _ => L - (intOf s4).toNat)
          case atStart => exact ⟨0, rfl, Nat.zero_le _, rfl, hbO⟩
          case round =>
            clear hbO
            obtain ⟨m, rfl, hm, hi, hbW⟩ := hrel
            by_cases hmt : m < L
            · have HI := Lib.hid hi
              obtain ⟨⟨a, b⟩, hc⟩ : ∃ p, l[m]? = some p := ⟨_, List.getElem?_eq_getElem (by rw [HL.out]; exact hmt)⟩
              obtain ⟨ga, gb⟩ := near_at HN.out hc
              have hp := HP.out
              have hq := HQ.out
              obtain ⟨ad, rfl, hB, c1, c2⟩ := (HR.out.step hbW).at_ hp
              obtain ⟨ad2, e2, _, c3, c4⟩ := (HR.out.step hbW).at_ hq
              obtain rfl := Option.some.inj e2
              dsimp only at c1 c2 c3 c4
              have hk1 : (ad.add (k * 2)).block < w.heap.size := by rw [block_add]; exact hB
              have hk3 : (ad.add (j * 2)).block < w.heap.size := by rw [block_add]; exact hB
              have hz := hbW.size
              obtain ⟨ad3, e7, _, c5, c6⟩ := (HR.out.step hbW).at_ hc
              obtain rfl := Option.some.inj e7
              dsimp only at c5 c6
              have hk5 : (ad.add (m * 2)).block < w.heap.size := by rw [block_add]; exact hB
              have p1 : decide ((m : Int) < (L : Int)) = true := by simp; omega
              have p2 : (0 : Int) ≤ (m : Int) := by omega
              have p3 : (m : Int) < (L : Int) := by omega
              have p4 : IntKind.i64.wrap ((m : Int) + 1) = (m : Int) + 1 := IntWalk.i64_in _ (by omega)
              obtain ⟨s, hs⟩ : ∃ s, sideV x y u v a b = s := ⟨_, rfl⟩
              have HS := Lib.hid (left_side (a, b) x y u v s hs)
              have HC := Lib.hid hc
              have SD0 := fun w => r5side_any x y u v a b w HXY.out.1.1 HXY.out.1.2 HXY.out.2.1 HXY.out.2.2 ga gb
              simp only [hs] at SD0
              have SD := Lib.hid SD0
              clear SD0 hi hc hp hq hs ga gb
              by_cases hs0 : s < 0
              · have p5 : decide (s < 0) = true := by simpa using hs0
                have F := Lib.hid (show convexV l = false from convex_no (List.mem_of_getElem? HE.out) (List.mem_of_getElem? HC.out) (by rw [HS.out, p5]; rfl))
                clear hs0
                go_upto_region 9 with fail
                go_region_held3 (fun w' => w'.cell? (ad.add (k * 2)) = some (.int .i64 (x)) ∧ w'.cell? ⟨(ad.add (k * 2)).block, (ad.add (k * 2)).off + 1, none⟩ = some (.int .i64 (y)) ∧ w'.cell? (ad.add (j * 2)) = some (.int .i64 (u)) ∧ w'.cell? ⟨(ad.add (j * 2)).block, (ad.add (j * 2)).off + 1, none⟩ = some (.int .i64 (v)) ∧ w'.cell? (ad.add (m * 2)) = some (.int .i64 (a)) ∧ w'.cell? ⟨(ad.add (m * 2)).block, (ad.add (m * 2)).off + 1, none⟩ = some (.int .i64 (b)) ∧ Below wr.heap.size wr w') ((first | assumption | exact ⟨by simp [*], by simp [*], by simp [*], by simp [*], by simp [*], by simp [*], (Below.refl _ _).drew⟩ | exact keep6 ‹_› hb (by (try dsimp only); omega) (by (try dsimp only); omega) (by (try dsimp only); omega) (by (try dsimp only); omega) (by (try dsimp only); omega) (by (try dsimp only); omega) | exact keepA6 ‹_› _ (by (try dsimp only); omega) (by (try dsimp only); omega) (by (try dsimp only); omega) (by (try dsimp only); omega) (by (try dsimp only); omega) (by (try dsimp only); omega) | exact keepS6 (keepS6 ‹_› _ _ (by (try dsimp only); omega) (by (try dsimp only); omega) (by (try dsimp only); omega) (by (try dsimp only); omega) (by (try dsimp only); omega) (by (try dsimp only); omega) (by (try dsimp only); omega)) _ _ (by (try dsimp only); omega) (by (try dsimp only); omega) (by (try dsimp only); omega) (by (try dsimp only); omega) (by (try dsimp only); omega) (by (try dsimp only); omega) (by (try dsimp only); omega))) ((first | (go_at_call 26; with_reducible refine (SD.out _).mono ?_; rintro e w' ⟨rfl, hb⟩)))
                all_goals
                  have hF := belK6 ‹_ ∧ _ ∧ _ ∧ _ ∧ _ ∧ _ ∧ Below wr.heap.size wr _›
                  go_wp2
                  go_ret
                  exact ⟨by rw [F.out]; rfl, hbW.trans (hF.mono hz)⟩
              · have p5 : decide (s < 0) = false := by simpa using hs0
                have F := Lib.hid (all_take l (fun c => leftOf1 c ((x, y), (u, v))) m HC.out HI.out (by rw [HS.out, p5]; rfl))
                clear hs0
                go_upto_region 9 with fail
                go_region_held3 (fun w' => w'.cell? (ad.add (k * 2)) = some (.int .i64 (x)) ∧ w'.cell? ⟨(ad.add (k * 2)).block, (ad.add (k * 2)).off + 1, none⟩ = some (.int .i64 (y)) ∧ w'.cell? (ad.add (j * 2)) = some (.int .i64 (u)) ∧ w'.cell? ⟨(ad.add (j * 2)).block, (ad.add (j * 2)).off + 1, none⟩ = some (.int .i64 (v)) ∧ w'.cell? (ad.add (m * 2)) = some (.int .i64 (a)) ∧ w'.cell? ⟨(ad.add (m * 2)).block, (ad.add (m * 2)).off + 1, none⟩ = some (.int .i64 (b)) ∧ Below wr.heap.size wr w') ((first | assumption | exact ⟨by simp [*], by simp [*], by simp [*], by simp [*], by simp [*], by simp [*], (Below.refl _ _).drew⟩ | exact keep6 ‹_› hb (by (try dsimp only); omega) (by (try dsimp only); omega) (by (try dsimp only); omega) (by (try dsimp only); omega) (by (try dsimp only); omega) (by (try dsimp only); omega) | exact keepA6 ‹_› _ (by (try dsimp only); omega) (by (try dsimp only); omega) (by (try dsimp only); omega) (by (try dsimp only); omega) (by (try dsimp only); omega) (by (try dsimp only); omega) | exact keepS6 (keepS6 ‹_› _ _ (by (try dsimp only); omega) (by (try dsimp only); omega) (by (try dsimp only); omega) (by (try dsimp only); omega) (by (try dsimp only); omega) (by (try dsimp only); omega) (by (try dsimp only); omega)) _ _ (by (try dsimp only); omega) (by (try dsimp only); omega) (by (try dsimp only); omega) (by (try dsimp only); omega) (by (try dsimp only); omega) (by (try dsimp only); omega) (by (try dsimp only); omega))) ((first | (go_at_call 26; with_reducible refine (SD.out _).mono ?_; rintro e w' ⟨rfl, hb⟩)))
                all_goals
                  have hF := belK6 ‹_ ∧ _ ∧ _ ∧ _ ∧ _ ∧ _ ∧ Below wr.heap.size wr _›
                  go_wp2
                  go_roundw
                  case rel => exact ⟨m + 1, by go_num, by omega, F.out, hbW.trans (hF.mono hz)⟩
                  case measure => simp [intOf]; omega
            · have p1 : decide ((m : Int) < (L : Int)) = false := by simp; omega
              have F := Lib.hid (all_take (edges l) (fun e => l.all fun c => leftOf1 c e) k HE.out HA.out (by rw [← hi, show m = L by omega, ← HL.out, List.take_length]))
              clear hi
              go_wp2
              go_roundw
              case rel => exact ⟨k + 1, by go_num, by omega, F.out, hbW⟩
              case measure => simp [intOf]; omega
        · have F := Lib.hid (show convexV l = true by
            rw [HG.out, ← ha, show k = L by omega, ← HL.out, ← edges_len, List.take_length])
          have q3 : decide ((k : Int) < (L : Int)) = false := by simp; omega
          clear ha
          go_wp2
          go_ret
          exact ⟨by rw [F.out]; rfl, hbO⟩
end Go.Proofs.Ytlgfnhapjhoelaa
