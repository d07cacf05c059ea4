/- What the program's own pieces answer: Put, onto a list of any many. -/
import Derived.Test.YtlgfnhapjhoelaaLit6
import Derived.Test.YtlgfnhapjhoelaaPieceD
import Derived.Test.YtlgfnhapjhoelaaPieceF
namespace Go.Proofs.Ytlgfnhapjhoelaa
open Go.RowKit
set_option linter.unusedVariables false
set_option linter.unusedSimpArgs false
set_option maxHeartbeats 4000000
set_option maxRecDepth 100000

theorem info_pp : (Try.prog.info? 27).map (fun i => (i.zero, i.size, i.bytes)) = some (some (.slice none 0 0), 1, 24) := by kernel_rfl
theorem und_pps : Try.prog.underlying 44 = some (.slice 27) := by kernel_rfl
/-- A row of one's own of pieces, each somewhere in memory. -/
def PRow (w : World) (B : Nat) (v : Value) (ps : List (List Pnt)) : Prop :=
  ∃ vs : List Value, w.ownsRow B 27 1 v ps.length vs ∧ ∀ (i : Nat) (p : List Pnt), ps[i]? = some p → p.length ≤ 16 ∧ ∃ a c, vs[i]? = some (.slice a p.length c) ∧ Cor w w.heap.size a p ∧ TyC w a p
theorem PRow.after {w w' : World} {B : Nat} {v : Value} {ps : List (List Pnt)} (h : PRow w B v ps) (hb : Below w.heap.size w w') : PRow w' B v ps := by
  obtain ⟨vs, h1, h2⟩ := h
  refine ⟨vs, ownsRow_after h1 hb, fun i p hp => ?_⟩
  obtain ⟨h3, a, c, h4, h5, h6⟩ := h2 i p hp
  exact ⟨h3, a, c, h4, (h5.step hb).more hb.size, h6.after hb⟩
theorem PRow.pcs {w : World} {B : Nat} {v : Value} {ps : List (List Pnt)} (h : PRow w B v ps) : ∃ A cap, v = .slice A ps.length cap ∧ Pcs w w.heap.size A ps := by
  obtain ⟨vs, h1, h2⟩ := h
  obtain ⟨A, cap, hv, hn, hvs⟩ := vals_of_row h1
  exact ⟨A, cap, by rw [hv, hn], vs, hn, hvs, fun i p hp => by obtain ⟨h3, a, c, h4, h5, _⟩ := h2 i p hp; exact ⟨h3, a, c, h4, h5⟩⟩
/-- A slice of corners outlives what turns a row that is none of its own. -/
theorem cor_grown {w w' : World} {A : Option Addr} {l : List Pnt} {row : Option Nat} (h : Cor w w.heap.size A l) (hg : w.grownBy w' row) (hr : ∀ ad, A = some ad → 0 < l.length → some ad.block ≠ row) : Cor w' w'.heap.size A l := fun hn => by
  obtain ⟨ad, e, hB, hc⟩ := h hn
  have hb := hg.block ad.block hB (hr ad e hn)
  refine ⟨ad, e, Nat.lt_of_lt_of_le hB hg.size, fun i p hp => ?_⟩
  obtain ⟨h1, h2⟩ := hc i p hp
  exact ⟨(World.cell?_of_block (a := ad.add (i * 2)) (by rw [block_add]; exact hb)).trans h1, (World.cell?_of_block (a := ⟨(ad.add (i * 2)).block, (ad.add (i * 2)).off + 1, none⟩) (show w'.heap[(ad.add (i * 2)).block]? = w.heap[(ad.add (i * 2)).block]? by rw [block_add]; exact hb)).trans h2⟩
theorem ty_not {w : World} {B : Nat} {v : Value} {n : Nat} {vs : List Value} {A : Option Addr} {l : List Pnt} (h : w.ownsRow B 27 1 v n vs) (ht : TyC w A l) : ∀ ad, A = some ad → 0 < l.length → some ad.block ≠ v.ownBlock := fun ad e hn k => by
  obtain ⟨ad', cur, fr, e', hh⟩ := ht hn
  obtain rfl := Option.some.inj (e.symm.trans e')
  obtain ⟨_, ⟨hv, _⟩ | ⟨g, cap, cur2, hv, _, hh2, _⟩⟩ := h
  · subst hv; cases k
  · subst hv
    have k2 : ad.block = g := by simpa [Value.ownBlock] using k
    rw [k2, hh2] at hh
    cases hh
theorem ty_grown {w w' : World} {B : Nat} {v : Value} {n : Nat} {vs : List Value} {A : Option Addr} {l : List Pnt} (h : w.ownsRow B 27 1 v n vs) (ht : TyC w A l) (hg : w.grownBy w' v.ownBlock) : TyC w' A l := fun hn => by
  have hne := ty_not h ht
  obtain ⟨ad, cur, fr, e, hh⟩ := ht hn
  exact ⟨ad, cur, fr, e, (hg.block _ (Array.getElem?_eq_some_iff.1 hh).1 (hne ad e hn)).trans hh⟩
/-- One more piece behind the others, in a block of points. -/
theorem PRow.snoc {w w' : World} {B : Nat} {v v' : Value} {ps : List (List Pnt)} {p : List Pnt} {a : Option Addr} {c : Nat} (hp : p.length ≤ 16) (vs : List Value)
    (h1 : w.ownsRow B 27 1 v ps.length vs) (h2 : ∀ (i : Nat) (p : List Pnt), ps[i]? = some p → p.length ≤ 16 ∧ ∃ a c, vs[i]? = some (.slice a p.length c) ∧ Cor w w.heap.size a p ∧ TyC w a p)
    (hg : w.grownBy w' v.ownBlock) (h3 : w'.ownsRow B 27 1 v' (ps.length + 1) (vs ++ [.slice a p.length c])) (hc : Cor w w.heap.size a p) (ht : TyC w a p) : PRow w' B v' (ps ++ [p]) := by
  have hl : vs.length = ps.length := by simpa using h1.1
  refine ⟨_, by simpa using h3, fun i q hq => ?_⟩
  by_cases hi : i < ps.length
  · rw [List.getElem?_append_left hi] at hq
    obtain ⟨g3, b, d, g4, g5, g6⟩ := h2 i q hq
    exact ⟨g3, b, d, by rw [List.getElem?_append_left (by omega)]; exact g4, cor_grown g5 hg (ty_not h1 g6), ty_grown h1 g6 hg⟩
  · rw [List.getElem?_append_right (by omega)] at hq
    have h0 : i - ps.length = 0 := by
      have := (List.getElem?_eq_some_iff.1 hq).1
      simpa using this
    rw [h0] at hq
    obtain rfl : p = q := by simpa using hq
    exact ⟨hp, a, c, by rw [List.getElem?_append_right (by omega), hl, h0]; rfl, cor_grown hc hg (ty_not h1 ht), ty_grown h1 ht hg⟩

theorem copies_any (A : Option Addr) (cap : Nat) (ps : List (List Pnt)) (w : World) (hp : Pcs w w.heap.size A ps) (hps : ps.length ≤ 16) :
    Calls Try.prog 35 #[.slice A ps.length cap] w fun e w' => ∃ v, e = .returned v ∧ PRow w' w.heap.size v ps ∧ Below w.heap.size w w' := by
  obtain ⟨i1, ki, kz0, kz1, kz2⟩ := info_parts info_pp
  have HR := Lib.hid hp
  clear hp
  obtain ⟨L, hL⟩ : ∃ L, ps.length = L := ⟨_, rfl⟩
  rw [hL] at hps ⊢
  have HL := Lib.hid hL
  clear hL
  have q0 : IntKind.i64.wrap ((L : Int) + 1) = (L : Int) + 1 := IntWalk.i64_in _ (by omega)
  have hbb : i1.bytes * (L + 1) ≤ 281474976710656 := by rw [kz2]; omega
  have hcc : (L : Int) + 1 = ((L + 1 : Nat) : Int) := by omega
  have HC := Lib.hid hcc
  have HQ := Lib.hid q0
  clear hcc q0
  go_enter Try.func35, Try.ntmps35
  go_wp2_with (at_make; refine wpList_make_own _ rfl _ _ _ rfl w.heap.size 27 i1 _ 1 und_pps ki kz0 kz1 .i64 .i64 _ (L + 1) (by rfl) (by rfl) HC.out hbb (by simp [maxLen]; omega) (Nat.le_refl _) ?_; intro w1 hown hgrow)
  have h1 : PRow w1 w.heap.size (.slice (some ⟨w.heap.size, 0, none⟩) 0 (L + 1)) (ps.take 0) := ⟨[], by simpa using hown, fun i p h => by simp at h⟩
  have hb1 : Below w.heap.size w w1 := (Below.refl _ _).grown hgrow (Nat.le_refl _) (fun g e => by cases e)
  clear hown hgrow
  go_loopw [3, 12] (fun v s12 wr => ∃ k : Nat, s12 = .int .i64 k ∧ k ≤ L ∧ PRow wr w.heap.size v (ps.take k) ∧ Below w.heap.size w wr) (fun _ s12 _ => L - (intOf s12).toNat)
  case atStart => exact ⟨0, rfl, Nat.zero_le _, h1, hb1⟩
  case round =>
    clear h1 hb1
    obtain ⟨k, rfl, hk, hP, hbW⟩ := hrel
    by_cases hlt : k < L
    · obtain ⟨p, hp⟩ : ∃ p, ps[k]? = some p := ⟨_, List.getElem?_eq_getElem (by rw [HL.out]; exact hlt)⟩
      obtain ⟨ad, a, c, rfl, hB, hp16, hcell, hcor⟩ := (HR.out.step hbW).at_ hp
      have HF := Lib.hid (show ps.take (k + 1) = ps.take k ++ [p] by rw [List.take_add_one, hp]; rfl)
      have HTl := Lib.hid (show (ps.take k).length = k by rw [List.length_take, HL.out]; omega)
      have hz := hbW.size
      have q2 : decide ((k : Int) < (L : Int)) = true := by simp; omega
      have q3 : (0 : Int) ≤ (k : Int) := by omega
      have q4 : (k : Int) < (L : Int) := by omega
      have q5 : IntKind.i64.wrap ((k : Int) + 1) = (k : Int) + 1 := IntWalk.i64_in _ (by omega)
      have hBk : (ad.add k).block < w.heap.size := by rw [block_add]; exact hB
      have CL := Lib.hid (fun wx hx => clone_pc a c p wx hx hp16)
      have HCR := Lib.hid (hcor.more hz)
      have HP := Lib.hid hP
      obtain ⟨vs0, hown0, -⟩ := hP
      rw [HTl.out] at hown0
      have hge := ownsRow_ge hown0
      clear hp hcor hown0
      go_wp2_with fail
      refine (CL.out _ HCR.out).mono ?_
      rintro e w3 ⟨a', c', rfl, hcl, hty, hb3⟩
      obtain ⟨vs, hown3, hvs⟩ := (HP.out.after hb3).after ((Below.refl _ _).alloc (Nat.le_refl _) (.cells #[.slice a' p.length c'] 27))
      rw [HTl.out] at hown3
      have hown4 := hown3
      have hvs3 := hvs
      have hz3 := hb3.size
      clear hown3 hvs
      iterate 5 (first | go_step | go_simp)
      refine wpList_append_lies _ rfl _ _ _ rfl w.heap.size 27 i1 _ 1 24 und_pps ki kz0 kz1 kz2 rfl (by omega) _ k _ (by rfl) hown4 ⟨w3.heap.size, 0, none⟩ 1 1 [.slice a' p.length c'] (by rfl) (by rfl) (World.news_of_block (cs := #[.slice a' p.length c']) (t := 27) (fr := (0, 0)) (heap_alloc_new w3 _)) (by simp [Value.oneCell']) (by omega) (by simp [maxLen]; omega) (by omega) (by simp; omega) _ rfl ?_
      intro gg cap3 w5 hown5 hgrow5 hat5 hlt5
      have hPR := Lib.hid (show PRow w5 w.heap.size (.slice (some ⟨gg, 0, none⟩) (k + 1) cap3) (ps.take (k + 1)) by
        rw [HF.out]
        exact PRow.snoc (w := w3.alloc (.cells #[.slice a' p.length c'] 27)) hp16 _ (by rw [HTl.out]; exact hown4) (fun i q hq => by
          obtain ⟨g3, b, d, g4, g5, g6⟩ := hvs3 i q hq
          exact ⟨g3, b, d, g4, g5, g6⟩) hgrow5 (by rw [HTl.out]; exact hown5) ((hcl.cor.step ((Below.refl _ _).alloc (Nat.le_refl _) _)).more (by simp)) (hty.after ((Below.refl _ _).alloc (Nat.le_refl _) _)))
      have hb5 : Below w.heap.size w w5 := ((hbW.trans (hb3.mono hz)).alloc (by omega) _).grown hgrow5 (by simp; omega) hge
      clear hown4 hown5 hvs3 hgrow5 hb3 hty hcl
      go_wp2
      all_goals
        go_roundw
        case rel => exact ⟨k + 1, by go_num, by omega, hPR.out, hb5⟩
        case measure => (simp [intOf]; try omega)
    · have hkL : k = L := by omega
      have q2 : decide ((k : Int) < (L : Int)) = false := by simp; omega
      have HP := Lib.hid (show PRow wr w.heap.size u3 ps by rw [hkL, show ps.take L = ps by rw [← HL.out, List.take_length]] at hP; exact hP)
      clear hP
      go_wp2
      refine bodyPost_ret (by simp [results, Try.results35, go_sem] <;> rfl) rfl ⟨u3, rfl, HP.out, hbW⟩
theorem own_lt {w : World} {B : Nat} {e : TypeId} {k : Nat} {v : Value} {n : Nat} {xs : List Value} (h : w.ownsRow B e k v n xs) : ∀ g, v.ownBlock = some g → g < w.heap.size := fun g hg => by
  obtain ⟨_, ⟨hv, _⟩ | ⟨g', cap, cur, hv, _, hh, _⟩⟩ := h
  · subst hv; cases hg
  · subst hv; cases hg; exact (Array.getElem?_eq_some_iff.1 hh).1
theorem pcs_snoc {w w' : World} {B : Nat} {v v' : Value} {ps : List (List Pnt)} {p : List Pnt} {a : Option Addr} {c : Nat} (hp : p.length ≤ 16) (vs : List Value)
    (h1 : w.ownsRow B 27 1 v ps.length vs) (h2 : ∀ (i : Nat) (p : List Pnt), ps[i]? = some p → p.length ≤ 16 ∧ ∃ a c, vs[i]? = some (.slice a p.length c) ∧ Cor w w.heap.size a p ∧ TyC w a p)
    (hg : w.grownBy w' v.ownBlock) (h3 : w'.ownsRow B 27 1 v' (ps.length + 1) (vs ++ [.slice a p.length c])) (hc : Cor w w.heap.size a p) (hne : ∀ ad, a = some ad → 0 < p.length → some ad.block ≠ v.ownBlock) :
    ∃ A' c', v' = .slice A' (ps ++ [p]).length c' ∧ Pcs w' w'.heap.size A' (ps ++ [p]) := by
  have hl : vs.length = ps.length := by simpa using h1.1
  obtain ⟨A', c', hv', hn', hvs'⟩ := vals_of_row h3
  refine ⟨A', c', by rw [hv', hn']; simp, _, by rw [hn']; simp, hvs', fun i q hq => ?_⟩
  by_cases hi : i < ps.length
  · rw [List.getElem?_append_left hi] at hq
    obtain ⟨g3, b, d, g4, g5, g6⟩ := h2 i q hq
    exact ⟨g3, b, d, by rw [List.getElem?_append_left (by omega)]; exact g4, cor_grown g5 hg (ty_not h1 g6)⟩
  · rw [List.getElem?_append_right (by omega)] at hq
    have h0 : i - ps.length = 0 := by
      have := (List.getElem?_eq_some_iff.1 hq).1
      simpa using this
    rw [h0] at hq
    obtain rfl : p = q := by simpa using hq
    exact ⟨hp, a, c, by rw [List.getElem?_append_right (by omega), hl, h0]; rfl, cor_grown hc hg hne⟩

theorem pput_any (A : Option Addr) (ps : List (List Pnt)) (B : Option Addr) (cb : Nat) (l : List Pnt) (w : World) (hp : Pcs w w.heap.size A ps) (hr : Cor w w.heap.size B l) (hps : ps.length ≤ 16) (hl : l.length ≤ 16) (hn : allNear l = true) :
    Calls Try.prog 24 #[.slice A ps.length ps.length, .slice B l.length cb] w fun e w' => ∃ A' c, e = .returned (.slice A' (ps ++ putL l).length c) ∧ Pcs w' w'.heap.size A' (ps ++ putL l) ∧ Below w.heap.size w w' := by
  obtain ⟨i1, ki, kz0, kz1, kz2⟩ := info_parts info_pp
  have CP := Lib.hid (copies_any A ps.length ps w hp hps)
  have CL := Lib.hid (fun wx hx => clone_pts B cb l wx hx hl)
  have CV := Lib.hid (fun a c wx hx => pconvex_any a c l wx hx hl hn)
  have CR := Lib.hid (fun a c wx hx => pconvex_any a c l.reverse wx hx (by rw [List.length_reverse]; exact hl) (by unfold allNear; rw [List.all_reverse]; exact hn))
  have RV := Lib.hid (fun a c b wx h1 h2 => reverse_any a c l b wx h1 h2 hl)
  have HR := Lib.hid hr
  clear hp hr hn
  obtain ⟨L, hL⟩ : ∃ L, l.length = L := ⟨_, rfl⟩
  have HLr := Lib.hid (show l.reverse.length = L by rw [List.length_reverse, hL])
  simp only [List.length_reverse] at CR
  simp only [hL] at CL CV CR RV
  rw [hL] at hl ⊢
  have HL := Lib.hid hL
  clear hL
  go_enter Try.func24, Try.ntmps24
  go_wp2_with fail
  refine CP.out.mono ?_
  rintro e w1 ⟨v, rfl, hP, hb1⟩
  have HP := Lib.hid hP
  have HB1 := Lib.hid hb1
  have HLt := Lib.hid (show ∀ g, v.ownBlock = some g → g < w1.heap.size by obtain ⟨vs, h1, _⟩ := hP; exact own_lt h1)
  clear hP
  go_wp2_with fail
  refine (CL.out _ ((HR.out.step hb1).more hb1.size)).mono ?_
  rintro e w2 ⟨A', c', rfl, hO, hty, hb2⟩
  have HO2 := Lib.hid hO
  have HB2 := Lib.hid hb2
  clear hty hO
  go_wp2_with fail
  refine (CV.out A' c' _ HO2.out.cor).mono ?_
  rintro e w3 ⟨rfl, hb3⟩
  have HON := Lib.hid (HO2.out.step hb3)
  have HBN := Lib.hid (HB2.out.trans (hb3.mono HB2.out.size))
  clear hb1 hb2 hb3
  cases hcv : convexV l with
  | true =>
    have HF := Lib.hid (show ps ++ putL l = ps ++ [l] by unfold putL; rw [if_pos hcv])
    have HBW := Lib.hid (HB1.out.trans (HBN.out.mono HB1.out.size))
    clear hcv
    have hPN := HP.out.after (HBN.out)
    obtain ⟨vs, hown, hvs⟩ := hPN.after ((Below.refl _ _).alloc (Nat.le_refl _) (.cells #[.slice A' L c'] 27))
    have hge := ownsRow_ge hown
    have hsz := HBW.out.size
    clear hPN
    go_upto_region 4 with fail
    iterate 10 (first | go_step | go_simp)
    refine wpList_append_lies _ rfl _ _ _ rfl w.heap.size 27 i1 _ 1 24 und_pps ki kz0 kz1 kz2 rfl (by omega) _ ps.length _ (by rfl) hown ⟨w3.heap.size, 0, none⟩ 1 1 [.slice A' L c'] (by rfl) (by rfl) (World.news_of_block (cs := #[.slice A' L c']) (t := 27) (fr := (0, 0)) (heap_alloc_new w3 _)) (by simp [Value.oneCell']) (by omega) (by simp [maxLen]; omega) (by omega) (by simp; omega) _ rfl ?_
    intro gg cap3 w5 hown5 hgrow5 hat5 hlt5
    have hb5 : Below w.heap.size w w5 := (HBW.out.alloc hsz _).grown hgrow5 (by simp; omega) hge
    obtain ⟨A5, c5, hv5, hP5⟩ := pcs_snoc (p := l) (by rw [HL.out]; omega) vs hown (fun i q hq => by
      obtain ⟨g3, b, d, g4, g5, g6⟩ := hvs i q hq
      exact ⟨g3, b, d, g4, g5, g6⟩) hgrow5 (by rw [HL.out]; exact hown5) ((HON.out.cor.step ((Below.refl _ _).alloc (Nat.le_refl _) _)).more (by simp)) (fun ad e hn k => by
      obtain ⟨g, e2, hg, _⟩ := HON.out hn
      have := HLt.out _ k.symm
      rw [e] at e2
      cases e2
      dsimp only at this
      omega)
    have HV5 := Lib.hid hv5
    clear hown hown5 hvs hgrow5 hv5
    go_wp2
    refine bodyPost_ret (by simp [results, Try.results24, go_sem] <;> rfl) rfl ⟨A5, c5, ?_, ?_, hb5⟩
    · rw [HF.out]; exact congrArg Ending.returned HV5.out
    · rw [HF.out]; exact hP5
  | false =>
    have HCV := Lib.hid hcv
    clear hcv
    go_wp2_with fail
    refine (RV.out A' c' _ _ HON.out (HBN.out.size)).mono ?_
    rintro e w4 ⟨rfl, hO4, hb4⟩
    have HO4 := Lib.hid hO4
    have HB4 := Lib.hid (HBN.out.trans hb4)
    clear hO4 hb4 HON HBN HO2
    go_wp2_with fail
    have hcor4 := HO4.out.cor
    refine (CR.out A' c' _ hcor4).mono ?_
    clear hcor4
    rintro e w6 ⟨rfl, hb6⟩
    have HON := Lib.hid (HO4.out.step hb6)
    have HBN := Lib.hid (HB4.out.trans (hb6.mono HB4.out.size))
    have HBW := Lib.hid (HB1.out.trans (HBN.out.mono HB1.out.size))
    clear hb6
    cases hcr : convexV l.reverse with
    | true =>
      have HF := Lib.hid (show ps ++ putL l = ps ++ [l.reverse] by unfold putL; rw [if_neg (by rw [HCV.out]; simp), if_pos hcr])
      clear hcr
      have hPN := HP.out.after (HBN.out)
      obtain ⟨vs, hown, hvs⟩ := hPN.after ((Below.refl _ _).alloc (Nat.le_refl _) (.cells #[.slice A' L c'] 27))
      have hge := ownsRow_ge hown
      have hsz := HBW.out.size
      clear hPN
      go_upto_region 7 with fail
      iterate 10 (first | go_step | go_simp)
      refine wpList_append_lies _ rfl _ _ _ rfl w.heap.size 27 i1 _ 1 24 und_pps ki kz0 kz1 kz2 rfl (by omega) _ ps.length _ (by rfl) hown ⟨w6.heap.size, 0, none⟩ 1 1 [.slice A' L c'] (by rfl) (by rfl) (World.news_of_block (cs := #[.slice A' L c']) (t := 27) (fr := (0, 0)) (heap_alloc_new w6 _)) (by simp [Value.oneCell']) (by omega) (by simp [maxLen]; omega) (by omega) (by simp; omega) _ rfl ?_
      intro gg cap3 w5 hown5 hgrow5 hat5 hlt5
      have hb5 : Below w.heap.size w w5 := (HBW.out.alloc hsz _).grown hgrow5 (by simp; omega) hge
      obtain ⟨A5, c5, hv5, hP5⟩ := pcs_snoc (p := l.reverse) (by rw [HLr.out]; omega) vs hown (fun i q hq => by
        obtain ⟨g3, b, d, g4, g5, g6⟩ := hvs i q hq
        exact ⟨g3, b, d, g4, g5, g6⟩) hgrow5 (by rw [HLr.out]; exact hown5) ((HON.out.cor.step ((Below.refl _ _).alloc (Nat.le_refl _) _)).more (by simp)) (fun ad e hn k => by
        obtain ⟨g, e2, hg, _⟩ := HON.out hn
        have := HLt.out _ k.symm
        rw [e] at e2
        cases e2
        dsimp only at this
        omega)
      have HV5 := Lib.hid hv5
      clear hown hown5 hvs hgrow5 hv5
      go_wp2
      refine bodyPost_ret (by simp [results, Try.results24, go_sem] <;> rfl) rfl ⟨A5, c5, ?_, ?_, hb5⟩
      · rw [HF.out]; exact congrArg Ending.returned HV5.out
      · rw [HF.out]; exact hP5
    | false =>
      have HF := Lib.hid (show ps ++ putL l = ps by unfold putL; rw [if_neg (by rw [HCV.out]; simp), if_neg (by rw [hcr]; simp), List.append_nil])
      clear hcr
      obtain ⟨A5, c5, rfl, hP5⟩ := (HP.out.after HBN.out).pcs
      have HP5 := Lib.hid hP5
      clear hP5
      go_wp2
      refine bodyPost_ret (by simp [results, Try.results24, go_sem] <;> rfl) rfl ⟨A5, c5, ?_, ?_, HBW.out⟩
      · rw [HF.out]
      · rw [HF.out]; exact HP5.out
end Go.Proofs.Ytlgfnhapjhoelaa
