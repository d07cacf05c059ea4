/- Copies of slices of corners, corners told backwards in place. -/
import Derived.Test.YtlgfnhapjhoelaaApp7
import Derived.Test.YtlgfnhapjhoelaaSlide
import Derived.Test.YtlgfnhapjhoelaaPieceC
import Derived.Lib.SliceRun
namespace Go.Proofs.Ytlgfnhapjhoelaa
open Go.RowKit
set_option linter.unusedVariables false
set_option linter.unusedSimpArgs false
set_option maxHeartbeats 4000000
set_option maxRecDepth 100000

/-- The slice at A is a row of one's own, at or beyond block B, that holds these corners. -/
def OwnC (B : Nat) (A : Option Addr) (l : List Pnt) (x : World) : Prop :=
  0 < l.length → ∃ g, A = some ⟨g, 0, none⟩ ∧ B ≤ g ∧ Row g l x ∧ ∀ i, x.frozen? ⟨g, i, none⟩ = false
theorem own_of_row {w : World} {B : Nat} {e : TypeId} {v : Value} {n : Nat} {l : List Pnt} (h : w.ownsRow B e 2 v n (flatP l)) : ∃ A cap, v = .slice A l.length cap ∧ l.length = n ∧ OwnC B A l w ∧ (A = none → v = .slice none 0 0) := by
  obtain ⟨A, cap, hv, hn, hc, hA⟩ := cor_of_row h
  refine ⟨A, cap, hv, hn, fun hpos => ?_, hA⟩
  obtain ⟨hl, ⟨hv2, hn2⟩ | ⟨g, cap2, cur, hv2, hB, hh, r⟩⟩ := h
  · omega
  · rw [hv] at hv2
    cases hv2
    obtain ⟨ad, e1, hlt, hcell⟩ := hc hpos
    obtain rfl := Option.some.inj e1
    refine ⟨g, rfl, hB, ⟨hlt, fun i p hp => ?_⟩, fun i => by simp [World.frozen?, hh]⟩
    obtain ⟨h1, h2⟩ := hcell i p hp
    have ha : (⟨g, 0, none⟩ : Addr).add (i * 2) = ⟨g, i * 2, none⟩ := by unfold Addr.add; split <;> simp_all
    rw [ha] at h1 h2
    exact ⟨h1, h2⟩
/-- These corners lie in a block of points. -/
def TyC (w : World) (A : Option Addr) (l : List Pnt) : Prop := 0 < l.length → ∃ ad cur fr, A = some ad ∧ w.heap[ad.block]? = some (.cells cur 24 fr)
theorem TyC.after {w w' : World} {A : Option Addr} {l : List Pnt} (h : TyC w A l) (hb : Below w.heap.size w w') : TyC w' A l := fun hp => by
  obtain ⟨ad, cur, fr, e, hh⟩ := h hp
  exact ⟨ad, cur, fr, e, (hb.block _ (Array.getElem?_eq_some_iff.1 hh).1).trans hh⟩
theorem ty_of_row {w : World} {B : Nat} {A : Option Addr} {n m cap : Nat} {l : List Pnt} (h : w.ownsRow B 24 2 (.slice A m cap) n (flatP l)) : TyC w A l := fun hpos => by
  obtain ⟨hl, ⟨hv2, hn2⟩ | ⟨g, cap2, cur, hv2, hB, hh, r⟩⟩ := h
  · rw [flatP_length] at hl; omega
  · cases hv2
    exact ⟨_, _, _, rfl, hh⟩
theorem OwnC.cor {B : Nat} {A : Option Addr} {l : List Pnt} {x : World} (h : OwnC B A l x) : Cor x x.heap.size A l := fun hpos => by
  obtain ⟨g, e, hB, ⟨hlt, hc⟩, hf⟩ := h hpos
  refine ⟨⟨g, 0, none⟩, e, hlt, fun i p hp => ?_⟩
  have ha : (⟨g, 0, none⟩ : Addr).add (i * 2) = ⟨g, i * 2, none⟩ := by unfold Addr.add; split <;> simp_all
  rw [ha]
  exact hc i p hp
theorem OwnC.step {B : Nat} {A : Option Addr} {l : List Pnt} {x y : World} (h : OwnC B A l x) (hb : Below x.heap.size x y) : OwnC B A l y := fun hpos => by
  obtain ⟨g, e, hB, hr, hf⟩ := h hpos
  exact ⟨g, e, hB, hr.step hb, fun i => (hb.frozen (p := ⟨g, i, none⟩) hr.1).trans (hf i)⟩
theorem cor_news {w : World} {B : Nat} {A : Option Addr} {l : List Pnt} (h : Cor w B A l) : ∀ (j : Nat) (u : Value), (flatP l)[j]? = some u → ∃ ad, A = some ad ∧ w.cell? (ad.add j) = some u := fun j u hu => by
  have hj := (List.getElem?_eq_some_iff.1 hu).1
  rw [flatP_length] at hj
  obtain ⟨ad, e, _⟩ := h (by omega)
  subst e
  exact ⟨ad, rfl, flat_cells h j u hu⟩
theorem und_pp : Try.prog.underlying 27 = some (.slice 24) := by kernel_rfl

theorem clone_pts (A : Option Addr) (cap : Nat) (l : List Pnt) (w : World) (hr : Cor w w.heap.size A l) (hl : l.length ≤ 16) :
    Calls Try.prog 36 #[.slice A l.length cap] w fun e w' => ∃ A' c', e = .returned (.slice A' l.length c') ∧ OwnC w.heap.size A' l w' ∧ TyC w' A' l ∧ Below w.heap.size w w' := by
  have q22 : ∀ (w : World) (a : Option Addr) (n c n' c' : Nat), (binOp .eql 22 (.slice a n c) (.slice none n' c')).run Try.prog w = .ok (.bool a.isNone) w := fun w a n c n' c' => Lib.run_eql_slice_nil w _ _ a n c n' c' und_pt
  obtain ⟨i0, hi, hz0, hz1, hz2⟩ := info_parts info_pt
  have hfl : (flatP l).length = l.length * 2 := flatP_length l
  obtain ⟨L, hL⟩ : ∃ L, l.length = L := ⟨_, rfl⟩
  rw [hL] at hl hfl ⊢
  have HR := Lib.hid hr
  have HL := Lib.hid hL
  clear hr hL
  cases A with
  | none =>
    have h0 : L = 0 := by
      rcases Nat.eq_zero_or_pos L with h | h
      · exact h
      · obtain ⟨ad, e, _⟩ := HR.out (by rw [HL.out]; exact h)
        cases e
    subst h0
    go_enter Try.func36, Try.ntmps36
    go_wp2
    go_ret
    exact ⟨none, 0, rfl, fun h => by rw [HL.out] at h; omega, fun h => by rw [HL.out] at h; omega, Below.refl _ _⟩
  | some ad =>
    have h0 := World.ownsRow_made (size := 2) (e := 24) (base := w.heap.size) w #[] 0 (Nat.le_refl _) (Nat.zero_le _) rfl
    have hnews := cor_news (HR.out.step ((Below.refl w.heap.size w).alloc (Nat.le_refl _) (.cells #[] 24)))
    have HNW := Lib.hid hnews
    have H0 := Lib.hid h0
    have HF := Lib.hid hfl
    clear hnews h0 hfl
    go_enter Try.func36, Try.ntmps36
    go_upto_region 3 with fail
    iterate 7 (first | go_step | go_simp)
    refine wpList_append_vals _ rfl _ _ rfl w.heap.size i0 _ 2 16 und_pt und_pt hi hz0 hz1 hz2 rfl (by omega) _ 0 _ (by rfl) H0.out (some ad) L cap (flatP l) (by rfl) HF.out HNW.out (flat_one l) (fun h => by cases h) (by simp [maxLen]; omega) (by omega) (by simp) ?_
    intro v' w' hown hb _
    simp only [Nat.zero_add, List.nil_append] at hown
    obtain ⟨A', c', rfl, hn, hc, -⟩ := own_of_row hown
    have hty := ty_of_row hown
    go_wp2
    refine bodyPost_ret (by simp [results, Try.results36, go_sem] <;> rfl) rfl ⟨A', c', by rw [← HL.out], hc, hty, ((Below.refl _ _).alloc (Nat.le_refl _) _).trans hb⟩

theorem clone_pc (A : Option Addr) (cap : Nat) (l : List Pnt) (w : World) (hr : Cor w w.heap.size A l) (hl : l.length ≤ 16) :
    Calls Try.prog 46 #[.slice A l.length cap] w fun e w' => ∃ A' c', e = .returned (.slice A' l.length c') ∧ OwnC w.heap.size A' l w' ∧ TyC w' A' l ∧ Below w.heap.size w w' := by
  have q22 : ∀ (w : World) (a : Option Addr) (n c n' c' : Nat), (binOp .eql 27 (.slice a n c) (.slice none n' c')).run Try.prog w = .ok (.bool a.isNone) w := fun w a n c n' c' => Lib.run_eql_slice_nil w _ _ a n c n' c' und_pp
  obtain ⟨i0, hi, hz0, hz1, hz2⟩ := info_parts info_pt
  have hfl : (flatP l).length = l.length * 2 := flatP_length l
  obtain ⟨L, hL⟩ : ∃ L, l.length = L := ⟨_, rfl⟩
  rw [hL] at hl hfl ⊢
  have HR := Lib.hid hr
  have HL := Lib.hid hL
  clear hr hL
  cases A with
  | none =>
    have h0 : L = 0 := by
      rcases Nat.eq_zero_or_pos L with h | h
      · exact h
      · obtain ⟨ad, e, _⟩ := HR.out (by rw [HL.out]; exact h)
        cases e
    subst h0
    go_enter Try.func46, Try.ntmps46
    go_wp2
    go_ret
    exact ⟨none, 0, rfl, fun h => by rw [HL.out] at h; omega, fun h => by rw [HL.out] at h; omega, Below.refl _ _⟩
  | some ad =>
    have h0 := World.ownsRow_made (size := 2) (e := 24) (base := w.heap.size) w #[] 0 (Nat.le_refl _) (Nat.zero_le _) rfl
    have hnews := cor_news (HR.out.step ((Below.refl w.heap.size w).alloc (Nat.le_refl _) (.cells #[] 24)))
    have HNW := Lib.hid hnews
    have H0 := Lib.hid h0
    have HF := Lib.hid hfl
    clear hnews h0 hfl
    go_enter Try.func46, Try.ntmps46
    go_upto_region 3 with fail
    iterate 7 (first | go_step | go_simp)
    refine wpList_append_vals _ rfl _ _ rfl w.heap.size i0 _ 2 16 und_pp und_pp hi hz0 hz1 hz2 rfl (by omega) _ 0 _ (by rfl) H0.out (some ad) L cap (flatP l) (by rfl) HF.out HNW.out (flat_one l) (fun h => by cases h) (by simp [maxLen]; omega) (by omega) (by simp) ?_
    intro v' w' hown hb _
    simp only [Nat.zero_add, List.nil_append] at hown
    obtain ⟨A', c', rfl, hn, hc, -⟩ := own_of_row hown
    have hty := ty_of_row hown
    go_wp2
    refine bodyPost_ret (by simp [results, Try.results46, go_sem] <;> rfl) rfl ⟨A', c', by rw [← HL.out], hc, hty, ((Below.refl _ _).alloc (Nat.le_refl _) _).trans hb⟩

end Go.Proofs.Ytlgfnhapjhoelaa
