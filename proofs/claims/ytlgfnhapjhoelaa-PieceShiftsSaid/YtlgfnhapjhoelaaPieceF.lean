/- What the program's own pieces answer: Shift; corners told backwards in place. -/
import Derived.Test.YtlgfnhapjhoelaaPieceE
namespace Go.Proofs.Ytlgfnhapjhoelaa
open Go.RowKit
set_option linter.unusedVariables false
set_option linter.unusedSimpArgs false
set_option maxHeartbeats 4000000
set_option maxRecDepth 100000

/-- The k first ones are made, the others are zero points. -/
def mkL (f : Pnt → Pnt) (l : List Pnt) (k : Nat) : List Pnt := (l.take k).map f ++ List.replicate (l.length - k) (0, 0)
theorem mk_len (f) (l : List Pnt) (k : Nat) (hk : k ≤ l.length) : (mkL f l k).length = l.length := by unfold mkL; simp; omega
theorem mk_end (f) (l : List Pnt) : mkL f l l.length = l.map f := by unfold mkL; simp
theorem mk_set (f) {l : List Pnt} {k : Nat} {p : Pnt} (h : l[k]? = some p) : (mkL f l k).set k (f p) = mkL f l (k + 1) := by
  have hk : k < l.length := (List.getElem?_eq_some_iff.1 h).1
  have e : l[k] = p := (List.getElem?_eq_some_iff.1 h).2
  unfold mkL
  rw [List.set_append_right _ _ (by simp; omega)]
  simp only [List.length_map, List.length_take, Nat.min_eq_left (Nat.le_of_lt hk), Nat.sub_self]
  rw [show l.length - k = (l.length - (k + 1)) + 1 by omega, List.replicate_succ, List.set_cons_zero, List.take_succ_eq_append_getElem hk, List.map_append, List.append_assoc, e]
  rfl
theorem made_zero (z : Value) (n : Nat) : (madeCells #[z, z] n).toList = List.replicate n z := by
  apply List.ext_getElem?
  intro j
  by_cases hj : j < n
  · rcases Nat.mod_two_eq_zero_or_one j with h | h <;> simp [madeCells, hj, h]
  · simp [madeCells, hj]
theorem flat_zero (n : Nat) : flatP (List.replicate n (0, 0)) = List.replicate (n * 2) (.int .i64 0) := by
  induction n with
  | zero => rfl
  | succ n ih => rw [List.replicate_succ, flatP_cons, ih, Nat.succ_mul, List.replicate_succ, List.replicate_succ]
theorem row_sh {w : World} {B : Nat} {e : TypeId} {g n cap : Nat} {l : List Pnt} (h : w.ownsRow B e 2 (.slice (some ⟨g, 0, none⟩) n cap) n (flatP l)) : Sh g l w w := by
  obtain ⟨hg, hc⟩ := row_cell h
  obtain ⟨hl, ⟨hv, hn⟩ | ⟨g', cap', cur, hv, hB, hh, r⟩⟩ := h
  · cases hv
  · cases hv
    exact ⟨⟨hg, fun i p hp => ⟨hc _ _ (flatP_get l i p hp).1, hc _ _ (flatP_get l i p hp).2⟩⟩, fun i => by simp [World.frozen?, hh], Below.refl _ _⟩
theorem Row.cor {g : Nat} {l : List Pnt} {x : World} (h : Row g l x) : Cor x x.heap.size (some ⟨g, 0, none⟩) l := fun _ => by
  refine ⟨⟨g, 0, none⟩, rfl, h.1, fun i p hp => ?_⟩
  have ha : (⟨g, 0, none⟩ : Addr).add (i * 2) = ⟨g, i * 2, none⟩ := by unfold Addr.add; split <;> simp_all
  rw [ha]
  exact h.2 i p hp

theorem pshift_any (A : Option Addr) (cap : Nat) (l : List Pnt) (s t : Int) (w : World) (hr : Cor w w.heap.size A l) (hl : l.length ≤ 16) (hn : allNear l = true) (hs : -1073741824 ≤ s ∧ s ≤ 1073741824) (ht : -1073741824 ≤ t ∧ t ≤ 1073741824) :
    Calls Try.prog 20 #[.slice A l.length cap, P2 s t] w fun e w' => ∃ A' c, e = .returned (.slice A' l.length c) ∧ Cor w' w'.heap.size A' (l.map (shP (s, t))) ∧ Below w.heap.size w w' := by
  obtain ⟨i0, hi, hz0, hz1, hz2⟩ := info_parts info_pt
  have HR := Lib.hid hr
  have HN := Lib.hid hn
  have HST := Lib.hid (And.intro hs ht)
  clear hr hn hs ht
  obtain ⟨L, hL⟩ : ∃ L, l.length = L := ⟨_, rfl⟩
  rw [hL] at hl ⊢
  have HL := Lib.hid hL
  clear hL
  have hbb : i0.bytes * L ≤ 281474976710656 := by rw [hz2]; omega
  go_enter Try.func20, Try.ntmps20
  go_wp2_with (at_make; refine wpList_make_full _ rfl _ _ _ rfl (w.heap.size + 1) 24 i0 _ 2 und_pp hi hz0 hz1 .i64 .i64 (L : Int) (L : Int) L (by rfl) (by rfl) rfl rfl hbb (by simp [maxLen]; omega) (by simp) ?_; intro w1 hown hgrow)
  have hown2 := hown
  rw [show (Value.agg #[Value.int IntKind.i64 0, Value.int IntKind.i64 0]).cells = #[.int .i64 0, .int .i64 0] from rfl, made_zero, ← flat_zero, World.size_alloc] at hown2
  have hS1 := row_sh hown2
  have hb1 : Below w.heap.size w w1 := ((Below.refl _ _).alloc (Nat.le_refl _) _).grown hgrow (by simp) (fun g e => by cases e)
  have hc1 : w1.cell? ⟨w.heap.size, 0, none⟩ = some (.int .i64 s) := ((Below.refl (w.heap.size + 1) _).grown hgrow (by simp) (fun g e => by cases e) |>.cell (p := ⟨w.heap.size, 0, none⟩) (by simp)).trans (by simp)
  have hc2 : w1.cell? ⟨w.heap.size, 1, none⟩ = some (.int .i64 t) := ((Below.refl (w.heap.size + 1) _).grown hgrow (by simp) (fun g e => by cases e) |>.cell (p := ⟨w.heap.size, 1, none⟩) (by simp)).trans (by simp)
  have HM0 := Lib.hid (show mkL (shP (s, t)) l 0 = List.replicate L (0, 0) by unfold mkL; simp [HL.out])
  rw [← HM0.out] at hS1
  have HB := Lib.hid hbb
  clear hown hown2 hgrow hbb
  go_wp2
  go_loopw [13] (fun v wr => ∃ k : Nat, v = .int .i64 k ∧ k ≤ L ∧ Sh (w.heap.size + 1) (mkL (shP (s, t)) l k) w1 wr) (fun v _ => L - (intOf v).toNat)
  case atStart => exact ⟨0, rfl, Nat.zero_le _, hS1⟩
  case round =>
    clear hS1
    obtain ⟨k, rfl, hk, hS⟩ := hrel
    have hgl := hS.row.1
    have hbW : Below w.heap.size w wr := hb1.trans (hS.bel.mono (by omega))
    have d1 : wr.cell? ⟨w.heap.size, 0, none⟩ = some (.int .i64 s) := (hS.bel.cell (p := ⟨w.heap.size, 0, none⟩) (by simp)).trans hc1
    have d2 : wr.cell? ⟨w.heap.size, 1, none⟩ = some (.int .i64 t) := (hS.bel.cell (p := ⟨w.heap.size, 1, none⟩) (by simp)).trans hc2
    by_cases hlt : k < L
    · obtain ⟨⟨x, y⟩, hp⟩ : ∃ p, l[k]? = some p := ⟨_, List.getElem?_eq_getElem (by rw [HL.out]; exact hlt)⟩
      obtain ⟨ad, rfl, hB, c1, c2⟩ := (HR.out.step hbW).at_ hp
      dsimp only at c1 c2
      obtain ⟨⟨n1, n2⟩, n3, n4⟩ := near_at HN.out hp
      have hm : k < (mkL (shP (s, t)) l k).length := by rw [mk_len _ _ _ (by rw [HL.out]; exact hk), HL.out]; exact hlt
      have HSet := Lib.hid (mk_set (shP (s, t)) hp)
      have CA := fun w => Lib.hid (vadd_any x y s t w (by omega) (by omega) (by have := HST.out; omega) (by have := HST.out; omega))
      obtain ⟨m, hmm⟩ : ∃ m, mkL (shP (s, t)) l k = m := ⟨_, rfl⟩
      rw [hmm] at hS hm HSet
      have hbA : ∀ o, Below wr.heap.size wr (wr.alloc o) := fun o => (Below.refl _ _).alloc (Nat.le_refl _) o
      have q2 : decide ((k : Int) < (L : Int)) = true := by simp; omega
      have q3 : (0 : Int) ≤ (k : Int) := by omega
      have q4 : (k : Int) < (L : Int) := by omega
      have q5 : IntKind.i64.wrap ((k : Int) + 1) = (k : Int) + 1 := IntWalk.i64_in _ (by omega)
      have hBk : (ad.add (k * 2)).block < w.heap.size := by rw [block_add]; exact hB
      have d3 : ∀ o, (wr.alloc o).cell? ⟨w.heap.size, 0, none⟩ = some (.int .i64 s) := fun o => ((hbA o).cell (p := ⟨w.heap.size, 0, none⟩) (by dsimp only; omega)).trans d1
      have d4 : ∀ o, (wr.alloc o).cell? ⟨w.heap.size, 1, none⟩ = some (.int .i64 t) := fun o => ((hbA o).cell (p := ⟨w.heap.size, 1, none⟩) (by dsimp only; omega)).trans d2
      have HSS := Lib.hid hS
      clear hp hmm n1 n2 n3 n4 hS
      go_wp2_with fail
      refine (CA _).out.mono ?_
      rintro e w3 ⟨rfl, hb⟩
      have hS3 := (HSS.out.step (hbA _)).step hb
      obtain ⟨f1, f2⟩ := hS3.row.2 k _ (List.getElem?_eq_getElem hm)
      have f3 := hS3.frz (k * 2)
      have f4 := hS3.frz (k * 2 + 1)
      have hS4 := hS3.put k (x + s) (y + t) hm
      have HS4 := Lib.hid (show Sh (w.heap.size + 1) (mkL (shP (s, t)) l (k + 1)) w1 ((w3.setCell ⟨w.heap.size + 1, k * 2, none⟩ (.int .i64 (x + s))).setCell ⟨w.heap.size + 1, k * 2 + 1, none⟩ (.int .i64 (y + t))) by rw [← HSet.out]; exact hS4)
      clear hS3 hS4 hb
      go_wp2
      go_roundw
      case rel => exact ⟨k + 1, by go_num, by omega, HS4.out⟩
      case measure => simp [intOf]; omega
    · have hkL : k = L := by omega
      have q2 : decide ((k : Int) < (L : Int)) = false := by simp; omega
      have HE := Lib.hid (show Cor wr wr.heap.size (some ⟨w.heap.size + 1, 0, none⟩) (l.map (shP (s, t))) by
        rw [hkL, ← HL.out, mk_end] at hS
        exact hS.row.cor)
      clear hS
      go_wp2
      refine bodyPost_ret (by simp [results, Try.results20, go_sem] <;> rfl) rfl ⟨_, L, rfl, HE.out, hbW⟩

/-- k corners at each end have changed their places. -/
def RevTo (l m : List Pnt) (k : Nat) : Prop :=
  m.length = l.length ∧ (∀ i, i < k → i < l.length → m[i]? = l[l.length - 1 - i]? ∧ m[l.length - 1 - i]? = l[i]?) ∧ ∀ i, k ≤ i → i + k < l.length → m[i]? = l[i]?
theorem rev_0 (l : List Pnt) : RevTo l l 0 := ⟨rfl, fun i h => by omega, fun _ _ _ => rfl⟩
theorem rev_end {l m : List Pnt} {k : Nat} (h : RevTo l m k) (hk : l.length ≤ 2 * k + 1) : m = l.reverse := by
  obtain ⟨h1, h2, h3⟩ := h
  apply List.ext_getElem?
  intro i
  by_cases hi : i < l.length
  · rw [List.getElem?_reverse hi]
    by_cases hik : i < k
    · exact (h2 i hik hi).1
    · by_cases hj : l.length - 1 - i < k
      · have := (h2 (l.length - 1 - i) hj (by omega)).2
        rwa [show l.length - 1 - (l.length - 1 - i) = i by omega] at this
      · rw [h3 i (by omega) (by omega), show l.length - 1 - i = i by omega]
  · rw [List.getElem?_eq_none (by omega), List.getElem?_eq_none (by simp; omega)]
theorem rev_step {l m : List Pnt} {k : Nat} {p q : Pnt} (h : RevTo l m k) (hk : k + k + 1 < l.length) (hp : m[k]? = some p) (hq : m[l.length - 1 - k]? = some q) : RevTo l ((m.set k q).set (l.length - 1 - k) p) (k + 1) := by
  obtain ⟨h1, h2, h3⟩ := h
  have ep := h3 k (by omega) (by omega)
  have eq := h3 (l.length - 1 - k) (by omega) (by omega)
  refine ⟨by simp [h1], fun i hi hil => ?_, fun i hi hil => ?_⟩
  · by_cases e : i = k
    · subst e
      refine ⟨?_, ?_⟩
      · rw [List.getElem?_set_ne (by omega), List.getElem?_set_self (by omega), ← eq, hq]
      · rw [List.getElem?_set_self (by simp; omega), ← ep, hp]
    · obtain ⟨g1, g2⟩ := h2 i (by omega) hil
      refine ⟨?_, ?_⟩
      · rw [List.getElem?_set_ne (by omega), List.getElem?_set_ne (by omega), g1]
      · rw [List.getElem?_set_ne (by omega), List.getElem?_set_ne (by omega), g2]
  · rw [List.getElem?_set_ne (by omega), List.getElem?_set_ne (by omega)]
    exact h3 i (by omega) (by omega)

theorem reverse_any (A : Option Addr) (cap : Nat) (l : List Pnt) (B : Nat) (w : World) (h : OwnC B A l w) (hB : B ≤ w.heap.size) (hl : l.length ≤ 16) :
    Calls Try.prog 37 #[.slice A l.length cap] w fun e w' => e = .returned (.tuple #[]) ∧ OwnC B A l.reverse w' ∧ Below B w w' := by
  have HO := Lib.hid h
  clear h
  obtain ⟨L, hL⟩ : ∃ L, l.length = L := ⟨_, rfl⟩
  rw [hL] at hl ⊢
  have HL := Lib.hid hL
  clear hL
  have q0 : IntKind.i64.wrap ((L : Int) - 1) = (L : Int) - 1 := IntWalk.i64_in _ (by omega)
  by_cases hpos : 0 < L
  · obtain ⟨g, rfl, hg, hrow, hfr⟩ := HO.out (by rw [HL.out]; exact hpos)
    have hS0 : Sh g l w w := ⟨hrow, hfr, Below.refl _ _⟩
    clear hrow hfr
    go_enter Try.func37, Try.ntmps37
    go_wp2
    go_loopw [2, 3] (fun s2 s3 wr => ∃ (k : Nat) (z : Int) (m : List Pnt), s2 = .int .i64 k ∧ s3 = .int .i64 z ∧ z = (L : Int) - 1 - k ∧ k ≤ L ∧ RevTo l m k ∧ Sh g m w wr) (fun s2 _ _ => L - (intOf s2).toNat)
    case atStart => exact ⟨0, (L : Int) - 1, l, rfl, rfl, by omega, Nat.zero_le _, rev_0 l, hS0⟩
    case round =>
      clear hS0
      obtain ⟨k, z, m, rfl, rfl, hz, hk, hrv, hS⟩ := hrel
      have hml : m.length = L := hrv.1.trans HL.out
      by_cases hlt : (k : Int) < z
      · obtain ⟨j, rfl⟩ : ∃ j : Nat, z = (j : Int) := ⟨z.toNat, by omega⟩
        have hj : L - 1 - k = j := by omega
        have hkj : k < j := by omega
        obtain ⟨⟨x, y⟩, hp⟩ : ∃ p, m[k]? = some p := ⟨_, List.getElem?_eq_getElem (by rw [hml]; omega)⟩
        obtain ⟨⟨u, v⟩, hq⟩ : ∃ p, m[j]? = some p := ⟨_, List.getElem?_eq_getElem (by rw [hml]; omega)⟩
        obtain ⟨c1, c2⟩ := hS.row.2 k _ hp
        obtain ⟨c3, c4⟩ := hS.row.2 j _ hq
        dsimp only at c1 c2 c3 c4
        have f1 := hS.frz (k * 2)
        have f2 := hS.frz (k * 2 + 1)
        have f3 := hS.frz (j * 2)
        have f4 := hS.frz (j * 2 + 1)
        have hS2 := ((hS.put k u v (by rw [hml]; omega)).put j x y (by rw [List.length_set, hml]; omega)).drew
        have HS2 := Lib.hid hS2
        have HV := Lib.hid (show RevTo l ((m.set k (u, v)).set j (x, y)) (k + 1) by
          have := rev_step hrv (by rw [HL.out]; omega) hp (by rw [HL.out, hj]; exact hq)
          rwa [HL.out, hj] at this)
        have q1 : decide ((k : Int) < (j : Int)) = true := by simpa using hlt
        have q2 : (0 : Int) ≤ (k : Int) := by omega
        have q3 : (k : Int) < (L : Int) := by omega
        have q4 : (0 : Int) ≤ (j : Int) := by omega
        have q5 : (j : Int) < (L : Int) := by omega
        have q6 : IntKind.i64.wrap ((k : Int) + 1) = (k : Int) + 1 := IntWalk.i64_in _ (by omega)
        have q7 : IntKind.i64.wrap ((j : Int) - 1) = (j : Int) - 1 := IntWalk.i64_in _ (by omega)
        have n1 : ¬ j * 2 = k * 2 := by omega
        have n2 : ¬ j * 2 = k * 2 + 1 := by omega
        have n3 : ¬ j * 2 + 1 = k * 2 := by omega
        have n4 : ¬ k * 2 = j * 2 := by omega
        have n5 : ¬ k * 2 + 1 = j * 2 := by omega
        have n6 : ¬ k * 2 = j * 2 + 1 := by omega
        have n7 : ¬ j = k := by omega
        have n8 : ¬ k = j := by omega
        have HZ := Lib.hid hz
        clear hp hq hS hS2 hrv hml hj hz
        go_upto_region 3 with fail
        go_region
        all_goals
          go_wp2
          go_roundw
          case rel => exact ⟨k + 1, (j : Int) - 1, _, by go_num, rfl, by have := HZ.out; omega, by omega, HV.out, HS2.out⟩
          case measure => simp [intOf]; omega
      · have HE := Lib.hid (show m = l.reverse from rev_end hrv (by rw [HL.out]; omega))
        have q1 : decide ((k : Int) < z) = false := by simpa using hlt
        have HS2 := Lib.hid hS
        clear hrv hml hS
        go_wp2
        go_end0
        refine ⟨rfl, fun _ => ⟨g, rfl, hg, ?_, HS2.out.frz⟩, HS2.out.bel.mono hg⟩
        rw [← HE.out]
        exact HS2.out.row
  · have h0 : L = 0 := by omega
    subst h0
    have hl0 : l = [] := List.eq_nil_of_length_eq_zero HL.out
    go_enter Try.func37, Try.ntmps37
    go_wp2
    go_loopw [2, 3] (fun s2 s3 wr => s2 = .int .i64 0 ∧ s3 = .int .i64 (-1) ∧ w = wr) (fun _ _ _ => 0)
    case atStart => exact ⟨rfl, rfl, rfl⟩
    case round =>
      obtain ⟨rfl, rfl, rfl⟩ := hrel
      go_wp2
      go_end0
      exact ⟨rfl, fun h => by rw [List.length_reverse, HL.out] at h; omega, Below.refl _ _⟩
end Go.Proofs.Ytlgfnhapjhoelaa
