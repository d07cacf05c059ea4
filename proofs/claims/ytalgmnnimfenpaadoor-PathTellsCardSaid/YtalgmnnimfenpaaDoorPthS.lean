/- A path that is shifted: the program's own answer. -/
import Derived.Test.YtalgmnnimfenpaaDoorPthJ
import Derived.Test.YtalgmnnimfenpaaDoorSlide
import Derived.Test.YtalgmnnimfenpaaDoorVecA
import Derived.Lib.SliceRun
import Derived.OwnWalk
namespace Go.Proofs.YtalgmnnimfenpaaDoor
open Go.RowKit
set_option linter.unusedVariables false
set_option linter.unusedSimpArgs false
set_option maxHeartbeats 4000000
set_option maxRecDepth 100000

theorem clone_is (A : Option Addr) (cap : Nat) (vs : List Int) (w : World) (hr : Vals w w.heap.size A (vs.map iV)) (hl : vs.length ≤ 1000000) :
    Calls Tryd.prog 41 #[.slice A vs.length cap] w fun e w' => ∃ A' c', e = .returned (.slice A' vs.length c') ∧ Vals w' w'.heap.size A' (vs.map iV) ∧ vs.length ≤ c' ∧ (∀ ad, A' = some ad → w.heap.size ≤ ad.block) ∧ Below w.heap.size w w' := by
  have q22 : ∀ (w : World) (a : Option Addr) (n c n' c' : Nat), (binOp .eql 22 (.slice a n c) (.slice none n' c')).run Tryd.prog w = .ok (.bool a.isNone) w := fun w a n c n' c' => Lib.run_eql_slice_nil w _ _ a n c n' c' und_is
  obtain ⟨i0, ki, kz0, kz1, kz2⟩ := info_parts info_i
  obtain ⟨L, hL⟩ : ∃ L, vs.length = L := ⟨_, rfl⟩
  rw [hL] at hl ⊢
  have HR := Lib.hid hr
  have HL := Lib.hid hL
  clear hr hL
  cases A with
  | none =>
    have h0 : L = 0 := by
      rcases Nat.eq_zero_or_pos L with h | h
      · exact h
      · obtain ⟨ad, e, _⟩ := HR.out (by rw [List.length_map, HL.out]; exact h)
        cases e
    subst h0
    go_enter Tryd.func41, Tryd.ntmps41
    go_wp2
    go_ret
    exact ⟨none, 0, rfl, (fun h => by rw [List.length_map, HL.out] at h; omega), Nat.le_refl _, (fun ad e => by cases e), Below.refl _ _⟩
  | some ad =>
    have h0 := World.ownsRow_made (size := 1) (e := 3) (base := w.heap.size) w #[] 0 (Nat.le_refl _) (Nat.zero_le _) rfl
    have hnews := ints_news (HR.out.step ((Below.refl w.heap.size w).alloc (Nat.le_refl _) (.cells #[] 3)))
    have HNW := Lib.hid hnews
    have H0 := Lib.hid h0
    clear hnews h0
    go_enter Tryd.func41, Tryd.ntmps41
    go_upto_region 3 with fail
    iterate 7 (first | go_step | go_simp)
    refine wpList_append_vals _ rfl _ _ rfl w.heap.size i0 _ 1 8 und_is und_is ki kz0 kz1 kz2 rfl (by omega) _ 0 _ (by rfl) H0.out (some ad) L cap (vs.map iV) (by rfl) (by rw [List.length_map, HL.out]; omega) HNW.out (ints_one vs) (fun h => by cases h) (by simp [maxLen]; omega) (by omega) (by simp) ?_
    intro v' w' hown hb _
    simp only [Nat.zero_add, List.nil_append] at hown
    obtain ⟨A', c', hv, hn, hV⟩ := vals_of_row hown
    rw [List.length_map, HL.out] at hv
    subst hv
    have hlt : ∀ ad, A' = some ad → w.heap.size ≤ ad.block := fun ad e => by
      rcases Nat.lt_or_ge ad.block w.heap.size with h | h
      · exact absurd rfl (row_far hown h ad e)
      · exact h
    have HV := Lib.hid hV
    have hcp : L ≤ c' := by obtain ⟨_, _, e, q, _⟩ := row_form hown; cases e; exact q
    have HLT := Lib.hid hlt
    clear hown hV hlt
    go_wp2
    refine bodyPost_ret (by simp [results, Tryd.results41, go_sem] <;> rfl) rfl ⟨A', c', rfl, HV.out, hcp, HLT.out, ((Below.refl _ _).alloc (Nat.le_refl _) _).trans hb⟩

/-- The first i of these, the others zero. -/
def fill (F : List Pnt) (M i : Nat) : List Pnt := F.take i ++ List.replicate (M - i) zP
theorem fill_len {F : List Pnt} {M i : Nat} (hF : F.length = M) (hi : i ≤ M) : (fill F M i).length = M := by unfold fill; simp; omega
theorem fill_set {F : List Pnt} {M i : Nat} {p : Pnt} (hF : F.length = M) (h : F[i]? = some p) : (fill F M i).set i p = fill F M (i + 1) := by
  have hi : i < F.length := (List.getElem?_eq_some_iff.1 h).1
  have e : F[i] = p := (List.getElem?_eq_some_iff.1 h).2
  unfold fill
  rw [List.set_append_right _ _ (by simp; omega)]
  simp only [List.length_take, Nat.min_eq_left (Nat.le_of_lt hi), Nat.sub_self]
  rw [show M - i = (M - (i + 1)) + 1 by omega, List.replicate_succ, List.set_cons_zero, List.take_succ_eq_append_getElem hi, List.append_assoc, e]
  rfl
theorem fill_end {F : List Pnt} {M : Nat} (hF : F.length = M) : fill F M M = F := by unfold fill; rw [← hF, List.take_length, Nat.sub_self]; simp
theorem flat_zeros (n : Nat) : flatP (List.replicate n zP) = List.replicate (n * 2) (.int .i64 0) := by
  induction n with
  | zero => rfl
  | succ n ih =>
    have e : flatP (zP :: List.replicate n zP) = [.int .i64 0, .int .i64 0] ++ flatP (List.replicate n zP) := rfl
    rw [List.replicate_succ, e, ih, show (n + 1) * 2 = n * 2 + 1 + 1 by omega, List.replicate_succ, List.replicate_succ]
    rfl
theorem zeros_flat (n : Nat) : (madeCells (Value.agg #[Value.int .i64 0, Value.int .i64 0]).cells (n * 2)).toList = flatP (List.replicate n zP) := by
  rw [flat_zeros]
  refine List.eq_replicate_iff.2 ⟨by simp [size_madeCells], fun b hb => ?_⟩
  unfold madeCells at hb
  simp only [Array.toList_map, List.mem_map] at hb
  obtain ⟨i, _, rfl⟩ := hb
  have h2 : (Value.agg #[Value.int .i64 0, Value.int .i64 0]).cells = #[Value.int .i64 0, Value.int .i64 0] := rfl
  rw [h2]
  have h3 : i % 2 = 0 ∨ i % 2 = 1 := by omega
  show (#[Value.int .i64 0, Value.int .i64 0] : Array Value)[i % 2]! = _
  rcases h3 with h | h <;> rw [h] <;> rfl
theorem row_of_own {w : World} {B : Nat} {e : TypeId} {g n c : Nat} {l : List Pnt} (h : w.ownsRow B e 2 (.slice (some ⟨g, 0, none⟩) n c) n (flatP l)) (hn : 0 < l.length) : Row g l w ∧ ∀ i, w.frozen? ⟨g, i, none⟩ = false := by
  have hg := (h.lt g rfl).2
  have hc := fun j u hu => h.cells (g := g) rfl j u hu
  obtain ⟨hl, ⟨hv2, hn2⟩ | ⟨g2, cap2, cur, hv2, hB, hh, r⟩⟩ := h
  · cases hv2
  · cases hv2
    refine ⟨⟨hg, fun i p hp => ?_⟩, fun i => by simp [World.frozen?, hh]⟩
    have hg2 := flatP_get l i p hp
    have ha : ∀ j, (⟨g, 0, none⟩ : Addr).add j = ⟨g, j, none⟩ := fun j => by unfold Addr.add; split <;> simp_all
    have h1 := hc _ _ hg2.1
    have h2 := hc _ _ hg2.2
    rw [ha] at h1 h2
    exact ⟨h1, h2⟩
theorem cor_of_rowg {w : World} {g : Nat} {l : List Pnt} (h : Row g l w) : Cor w w.heap.size (some ⟨g, 0, none⟩) l := fun _ => by
  refine ⟨_, rfl, h.1, fun i p hp => ?_⟩
  have ha : ∀ j, (⟨g, 0, none⟩ : Addr).add j = ⟨g, j, none⟩ := fun j => by unfold Addr.add; split <;> simp_all
  rw [ha]
  exact h.2 i p hp

theorem q7shift_any (A B : Option Addr) (ca cb : Nat) (vs : List Int) (ps : List Pnt) (s t : Int) (w : World) (h1 : Vals w w.heap.size A (vs.map iV)) (h2 : Cor w w.heap.size B ps) (hA : A = none → ca = 0)
    (l1 : vs.length ≤ 2000) (l2 : ps.length ≤ 2000) (hn : ∀ p ∈ ps, (-1073741824 ≤ p.1 ∧ p.1 ≤ 1073741824) ∧ (-1073741824 ≤ p.2 ∧ p.2 ≤ 1073741824)) (hs : -1073741824 ≤ s ∧ s ≤ 1073741824) (ht : -1073741824 ≤ t ∧ t ≤ 1073741824) :
    Calls Tryd.prog 28 #[PathA A vs.length ca B ps.length cb, P2 s t] w fun e w' => ∃ A' c' B' d', e = .returned (PathA A' vs.length c' B' ps.length d') ∧ Vals w' w'.heap.size A' (vs.map iV) ∧ Cor w' w'.heap.size B' (ps.map (shP (s, t))) ∧ ((vs.length ≤ c' ∧ ps.length ≤ d') ∧ d' ≤ 9223372036854775807) ∧ Below w.heap.size w w' := by
  obtain ⟨i1, hi, hz0, hz1, hz2⟩ := info_parts info_pt
  have H1 := Lib.hid h1
  have H2 := Lib.hid h2
  have HN := Lib.hid hn
  clear h1 h2 hA hn
  obtain ⟨L, hL⟩ : ∃ L, vs.length = L := ⟨_, rfl⟩
  obtain ⟨M, hM⟩ : ∃ M, ps.length = M := ⟨_, rfl⟩
  obtain ⟨F, hF⟩ : ∃ F, ps.map (shP (s, t)) = F := ⟨_, rfl⟩
  have hFM : F.length = M := by rw [← hF, List.length_map, hM]
  rw [hL] at l1 ⊢
  rw [hM] at l2 ⊢
  rw [hF]
  have HL := Lib.hid hL
  have HM := Lib.hid hM
  have HF := Lib.hid hF
  have HFM := Lib.hid hFM
  clear hL hM hF hFM
  go_enter Tryd.func28, Tryd.ntmps28
  go_upto_region 1 with fail
  refine any_gen (fun z => (z.cell? ⟨w.heap.size, 0, none⟩ = some (.slice A L ca) ∧ z.cell? ⟨w.heap.size, 1, none⟩ = some (.slice B M cb) ∧ z.cell? ⟨w.heap.size + 1, 0, none⟩ = some (.int .i64 s) ∧ z.cell? ⟨w.heap.size + 1, 1, none⟩ = some (.int .i64 t) ∧ (z.cell? ⟨w.heap.size + 1 + 1, 0, none⟩ = some (.slice none 0 0) ∧ z.cell? ⟨w.heap.size + 1 + 1, 1, none⟩ = some (.slice none 0 0)) ∧ z.frozen? ⟨w.heap.size + 1 + 1, 0, none⟩ = false ∧ z.frozen? ⟨w.heap.size + 1 + 1, 1, none⟩ = false) ∧ w.heap.size + 3 ≤ z.heap.size ∧ Below w.heap.size w z) ⟨⟨by simp [go_sem], by simp [go_sem], by simp [go_sem], by simp [go_sem], ⟨by simp [go_sem], by simp [go_sem]⟩, by first | rfl | simp [go_sem], by first | rfl | simp [go_sem]⟩, by simp, (((Below.refl _ _).alloc (Nat.le_refl _) _).alloc (by simp) _).alloc (by simp; omega) _⟩ ?_
  rintro w1 ⟨⟨c1, c2, c3, c4, ⟨c5, c6⟩, f5, f6⟩, hs1, hb0⟩
  iterate 10 (first | go_step | go_simp)
  refine wpList_make_full _ rfl _ _ _ rfl w1.heap.size 44 i1 _ 2 und_pt hi hz0 hz1 .i64 .i64 (M : Int) (M : Int) M (by rfl) (by rfl) rfl rfl (by rw [hz2]; omega) (by simp [maxLen]; omega) (Nat.le_refl _) ?_
  intro w2 hown hgr
  obtain ⟨g, hg⟩ : ∃ g, w1.heap.size = g := ⟨_, rfl⟩
  have hb2 : Below w1.heap.size w1 w2 := (Below.refl _ _).grown hgr (Nat.le_refl _) (fun k e => by cases e)
  have hg2 : g < w2.heap.size := by rw [← hg]; exact (hown.lt _ rfl).2
  rw [zeros_flat] at hown
  have S0 := Lib.hid (show 0 < M → Sh g (fill F M 0) w1 w2 from fun hp => by
    have e : fill F M 0 = List.replicate M zP := by unfold fill; simp
    rw [hg] at hown
    obtain ⟨r1, r2⟩ := row_of_own hown (by simpa using hp)
    rw [e]
    exact ⟨r1, r2, by rw [← hg]; exact hb2⟩)
  rw [hg] at hb2 hs1 ⊢
  have G1 := Lib.hid hg
  have d1 := (hb2.cell (by (try dsimp only); omega)).trans c1
  have d2 := (hb2.cell (by (try dsimp only); omega)).trans c2
  clear hown hgr hg
  go_wp2_with fail
  go_loopw [15] (fun s15 wr => ∃ i : Nat, s15 = .int .i64 i ∧ i ≤ M ∧ (0 < M → Sh g (fill F M i) w1 wr) ∧ Below g w1 wr ∧ g < wr.heap.size) (fun s15 _ => M - (intOf s15).toNat)
  case atStart => exact ⟨0, rfl, Nat.zero_le _, S0.out, hb2, hg2⟩
  case round =>
    clear d1 d2 hb2 hg2
    obtain ⟨i, rfl, hi', hS, hbr, hgr⟩ := hrel
    have d1 := (hbr.cell (by (try dsimp only); omega)).trans c1
    have d3 := (hbr.cell (by (try dsimp only); omega)).trans c3
    have d4 := (hbr.cell (by (try dsimp only); omega)).trans c4
    have d5 := (hbr.cell (by (try dsimp only); omega)).trans c5
    have d6 := (hbr.cell (by (try dsimp only); omega)).trans c6
    have g5 := (hbr.frozen (by (try dsimp only); omega)).trans f5
    have g6 := (hbr.frozen (by (try dsimp only); omega)).trans f6
    have hbw := hb0.trans (hbr.mono (by omega))
    by_cases hlt : i < M
    · obtain ⟨⟨x, y⟩, hp⟩ : ∃ p, ps[i]? = some p := ⟨_, List.getElem?_eq_getElem (by rw [HM.out]; exact hlt)⟩
      obtain ⟨ad, rfl, hB, e1, e2⟩ := (H2.out.step hbw).at_ hp
      dsimp only at e1 e2
      obtain ⟨nx1, ny1⟩ := HN.out _ (List.mem_of_getElem? hp)
      have hSt := hS (by omega)
      have HP := Lib.hid (show F[i]? = some (x + s, y + t) by rw [← HF.out, List.getElem?_map, hp]; rfl)
      have AD := Lib.hid (fun w => vadd_any x y s t w (by omega) (by omega) (by omega) (by omega))
      have p1 : decide ((i : Int) < (M : Int)) = true := by simp; omega
      have p2 : (0 : Int) ≤ (i : Int) := by omega
      have p3 : (i : Int) < (M : Int) := by omega
      have p4 : IntKind.i64.wrap ((i : Int) + 1) = (i : Int) + 1 := IntWalk.i64_in _ (by omega)
      have hBk : (ad.add (i * 2)).block < w.heap.size := by rw [block_add]; exact hB
      clear hp nx1 ny1 hS
      go_upto_region 5 with fail
      obtain ⟨T, hT⟩ : ∃ T, wr.heap.size = T := ⟨_, rfl⟩
      refine any_gen (fun z => (z.cell? ⟨T, 0, none⟩ = some (.int .i64 x) ∧ z.cell? ⟨T, 1, none⟩ = some (.int .i64 y)) ∧ (z.cell? ⟨w.heap.size + 1, 0, none⟩ = some (.int .i64 s) ∧ z.cell? ⟨w.heap.size + 1, 1, none⟩ = some (.int .i64 t)) ∧ Sh g (fill F M i) w1 z ∧ Below g w1 z ∧ g < z.heap.size ∧ T < z.heap.size) ⟨by subst hT; exact ⟨by simp, by simp⟩, ⟨(World.cell?_alloc_old _ _ _ (by simp; omega)).trans d3, (World.cell?_alloc_old _ _ _ (by simp; omega)).trans d4⟩, hSt.step ((Below.refl _ _).alloc (Nat.le_refl _) _), hbr.alloc (by omega) _, by simp; omega, by subst hT; simp⟩ ?_
      clear hSt hbr d1 d3 d4 d5 d6 g5 g6 e1 e2 hbw
      rw [hT]
      rintro w4 ⟨⟨y1, y2⟩, ⟨d3, d4⟩, hS4, hb4, hg4, hT4⟩
      go_wp2_with fail
      refine (AD.out _).mono ?_
      rintro e w5 ⟨rfl, h5⟩
      have hS5 := hS4.step h5
      have hb5 := hb4.trans (h5.mono (by omega))
      have hg5 := Nat.lt_of_lt_of_le hg4 h5.size
      have hlen := fill_len (i := i) HFM.out (by omega)
      obtain ⟨r0, r1⟩ := hS5.row.2 i _ (List.getElem?_eq_getElem (by rw [hlen]; exact hlt))
      have z0 := hS5.frz (i * 2)
      have z1 := hS5.frz (i * 2 + 1)
      have hput := Lib.hid (hS5.put i (x + s) (y + t) (by rw [hlen]; exact hlt))
      have HB5 := Lib.hid ((hb5.setCell (p := ⟨g, i * 2, none⟩) (Nat.le_refl g) (.int .i64 (x + s))).setCell (p := ⟨g, i * 2 + 1, none⟩) (Nat.le_refl g) (.int .i64 (y + t)))
      clear hS4 hS5 hb4 hb5 hg4 h5 d3 d4 y1 y2
      go_wp2
      go_roundw
      case rel => exact ⟨i + 1, by go_num, by omega, fun _ => by rw [← fill_set HFM.out HP.out]; exact hput.out, HB5.out, by simpa [World.setCell] using hg5⟩
      case measure => simp [intOf]; omega
    · obtain rfl : i = M := by omega
      have hFe := Lib.hid (fill_end HFM.out)
      have CL := Lib.hid (clone_is A ca vs wr ((H1.out.step hbw).more hbw.size) (by rw [HL.out]; omega))
      have p1 : decide ((i : Int) < (i : Int)) = false := by simp
      rw [HL.out] at CL
      go_wp2_with fail
      refine (CL.out).mono ?_
      rintro e w5 ⟨A', c', rfl, hV, hcp, hlt', h5⟩
      have k5 := (h5.cell (by (try dsimp only); omega)).trans d5
      have k6 := (h5.cell (by (try dsimp only); omega)).trans d6
      have m5 := (h5.frozen (by (try dsimp only); omega)).trans g5
      have m6 := (h5.frozen (by (try dsimp only); omega)).trans g6
      have HV := Lib.hid hV
      have HLT := Lib.hid (show ∀ ad, A' = some ad → ad.block ≠ w.heap.size + 1 + 1 from fun ad e => by have := hlt' ad e; omega)
      have HC := Lib.hid (show Cor w5 w5.heap.size (some ⟨g, 0, none⟩) F from fun hp => by
        have hr := (hS (by rw [HFM.out] at hp; exact hp)).step h5
        rw [hFe.out] at hr
        exact cor_of_rowg hr.row hp)
      have hb5 := hbw.trans (h5.mono (by omega))
      clear hS hV hlt' h5 d1 d3 d4 d5 d6 g5 g6 c1 c2 c3 c4 c5 c6 f5 f6
      go_wp2
      refine bodyPost_ret (by simp [results, Tryd.results28, go_sem, *] <;> rfl) rfl ⟨A', c', some ⟨g, 0, none⟩, i, rfl, ?_, ?_, ⟨⟨hcp, Nat.le_refl _⟩, by omega⟩, ?_⟩
      · have h := (HV.out.set ⟨w.heap.size + 1 + 1, 0, none⟩ (.slice A' L c') HLT.out).set ⟨w.heap.size + 1 + 1, 1, none⟩ (.slice (some ⟨g, 0, none⟩) i i) HLT.out
        simpa [World.setCell] using h
      · have h := (HC.out.set ⟨w.heap.size + 1 + 1, 0, none⟩ (.slice A' L c') (fun ad e => by cases e; dsimp only; omega)).set ⟨w.heap.size + 1 + 1, 1, none⟩ (.slice (some ⟨g, 0, none⟩) i i) (fun ad e => by cases e; dsimp only; omega)
        simpa [World.setCell] using h
      · exact (hb5.setCell (by dsimp only; omega) _).setCell (by dsimp only; omega) _
end Go.Proofs.YtalgmnnimfenpaaDoor
