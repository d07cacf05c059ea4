/- Lists of pieces: Same. -/
import Derived.Test.YtlgfnhapjhoelaaRef6G
import Derived.Test.YtlgfnhapjhoelaaRef6D
namespace Go.Proofs.Ytlgfnhapjhoelaa
open Go.RowKit
set_option linter.unusedVariables false
set_option linter.unusedSimpArgs false
set_option maxHeartbeats 8000000
set_option maxRecDepth 100000

/-- The slice at A holds these pieces. -/
def Pcs (w : World) (B : Nat) (A : Option Addr) (ps : List (List Pnt)) : Prop :=
  ∃ vs : List Value, vs.length = ps.length ∧ Vals w B A vs ∧ ∀ (i : Nat) (p : List Pnt), ps[i]? = some p → p.length ≤ 16 ∧ ∃ a c, vs[i]? = some (.slice a p.length c) ∧ Cor w B a p
theorem Pcs.step {w w' : World} {B : Nat} {A : Option Addr} {ps : List (List Pnt)} (h : Pcs w B A ps) (hb : Below B w w') : Pcs w' B A ps := by
  obtain ⟨vs, hl, hv, hc⟩ := h
  refine ⟨vs, hl, hv.step hb, fun i p hp => ?_⟩
  obtain ⟨h16, a, c, h1, h2⟩ := hc i p hp
  exact ⟨h16, a, c, h1, h2.step hb⟩
theorem Pcs.at_ {w : World} {B : Nat} {A : Option Addr} {ps : List (List Pnt)} (h : Pcs w B A ps) {i : Nat} {p : List Pnt} (hp : ps[i]? = some p) :
    ∃ ad a c, A = some ad ∧ ad.block < B ∧ p.length ≤ 16 ∧ w.cell? (ad.add i) = some (.slice a p.length c) ∧ Cor w B a p := by
  obtain ⟨vs, hl, hv, hc⟩ := h
  obtain ⟨h16, a, c, h1, h2⟩ := hc i p hp
  obtain ⟨ad, e, hB, hcell⟩ := hv.at_ h1
  exact ⟨ad, a, c, e, hB, h16, hcell, h2⟩
def sameVs (a b : List (List Pnt)) : Bool := decide (a = b)
theorem drop_consL {α : Type} {l : List α} {k : Nat} {p : α} (h : l[k]? = some p) : l.drop k = p :: l.drop (k + 1) := by
  obtain ⟨hk, e⟩ := List.getElem?_eq_some_iff.1 h
  rw [List.drop_eq_getElem_cons hk, e]

theorem same_any (A A' : Option Addr) (cap cap' : Nat) (ps qs : List (List Pnt)) (w : World) (hr : Pcs w w.heap.size A ps) (hr' : Pcs w w.heap.size A' qs) (hl : ps.length ≤ 16) (hl' : qs.length ≤ 16) :
    Calls Try.prog 22 #[.slice A ps.length cap, .slice A' qs.length cap'] w fun e w' => e = .returned (.bool (sameVs ps qs)) ∧ Below w.heap.size w w' := by
  have HR := Lib.hid hr
  have HR' := Lib.hid hr'
  clear hr hr'
  obtain ⟨L, hL⟩ : ∃ L, ps.length = L := ⟨_, rfl⟩
  obtain ⟨M, hM⟩ : ∃ M, qs.length = M := ⟨_, rfl⟩
  rw [hL] at hl ⊢
  rw [hM] at hl' ⊢
  have HL := Lib.hid hL
  have HM := Lib.hid hM
  clear hL hM
  by_cases hLM : L = M
  · subst hLM
    have q0 : ((L : Int) != (L : Int)) = false := by simp
    go_enter Try.func22, Try.ntmps22
    go_wp2
    go_loopw [5] (fun s5 wr => ∃ k : Nat, s5 = .int .i64 k ∧ k ≤ L ∧ decide (ps.drop k = qs.drop k) = sameVs ps qs ∧ Below w.heap.size w wr) (fun s5 _ => L - (intOf s5).toNat)
    case atStart => exact ⟨0, rfl, Nat.zero_le _, rfl, Below.refl _ _⟩
    case round =>
      obtain ⟨k, rfl, hk, hs, hbW⟩ := hrel
      by_cases hlt : k < L
      · obtain ⟨p, hp⟩ : ∃ p, ps[k]? = some p := ⟨_, List.getElem?_eq_getElem (by rw [HL.out]; exact hlt)⟩
        obtain ⟨q, hq⟩ : ∃ p, qs[k]? = some p := ⟨_, List.getElem?_eq_getElem (by rw [HM.out]; exact hlt)⟩
        obtain ⟨ad, a, c, rfl, hB, hp16, c1, hcp⟩ := (HR.out.step hbW).at_ hp
        obtain ⟨ad', a', c', rfl, hB', hq16, c2, hcq⟩ := (HR'.out.step hbW).at_ hq
        have q1 : decide ((k : Int) < (L : Int)) = true := by simp; omega
        have q2 : (0 : Int) ≤ (k : Int) := by omega
        have q3 : (k : Int) < (L : Int) := by omega
        have q4 : IntKind.i64.wrap ((k : Int) + 1) = (k : Int) + 1 := IntWalk.i64_in _ (by omega)
        have d1 := drop_consL hp
        have d2 := drop_consL hq
        have hz := hbW.size
        have SO := Lib.hid (fun (wx : World) (hx : Below wr.heap.size wr wx) => sameone_any a a' c c' p q wx ((hcp.more hz).step hx |>.more hx.size) ((hcq.more hz).step hx |>.more hx.size) (by omega) (by omega))
        have hB1 : (ad.add k).block < wr.heap.size := by rw [block_add]; omega
        have hB2 : (ad'.add k).block < wr.heap.size := by rw [block_add]; omega
        clear hcp hcq
        cases hb : sameV p q
        · have F := Lib.hid (show sameVs ps qs = false by
            rw [← hs, d1, d2]
            have : p ≠ q := by simpa [sameV] using hb
            simp [this])
          rw [hb] at SO
          clear hs hp hq d1 d2 hb
          go_upto_region 6 with fail
          first | (go_region_held3 (fun w' => w'.cell? (ad.add k) = some (.slice a p.length c) ∧ w'.cell? (ad'.add k) = some (.slice a' q.length c') ∧ Below wr.heap.size wr w') ((first | assumption | exact ⟨by simp [*], by simp [*], (Below.refl _ _).drew⟩ | exact keep2 ‹_› hb (by (try dsimp only); omega) (by (try dsimp only); omega) | exact keepA2 ‹_› _ (by (try dsimp only); omega) (by (try dsimp only); omega) | exact keepS2 (keepS2 ‹_› _ _ (by (try dsimp only); omega) (by (try dsimp only); omega) (by (try dsimp only); omega)) _ _ (by (try dsimp only); omega) (by (try dsimp only); omega) (by (try dsimp only); omega))) ((first | (go_at_call 19; refine (SO.out _ (Below.refl _ _).drew).mono ?_; rintro e w' ⟨rfl, hb⟩)))) | fail
          all_goals
            have hF := belK2 ‹_ ∧ _ ∧ Below wr.heap.size wr _›
            go_wp2
            go_ret
            exact ⟨by rw [F.out]; rfl, hbW.trans (hF.mono hz)⟩
        · have F := Lib.hid (show decide (ps.drop (k + 1) = qs.drop (k + 1)) = sameVs ps qs by
            rw [← hs, d1, d2]
            have : p = q := by simpa [sameV] using hb
            simp [this])
          rw [hb] at SO
          clear hs hp hq d1 d2 hb
          go_upto_region 6 with fail
          first | (go_region_held3 (fun w' => w'.cell? (ad.add k) = some (.slice a p.length c) ∧ w'.cell? (ad'.add k) = some (.slice a' q.length c') ∧ Below wr.heap.size wr w') ((first | assumption | exact ⟨by simp [*], by simp [*], (Below.refl _ _).drew⟩ | exact keep2 ‹_› hb (by (try dsimp only); omega) (by (try dsimp only); omega) | exact keepA2 ‹_› _ (by (try dsimp only); omega) (by (try dsimp only); omega) | exact keepS2 (keepS2 ‹_› _ _ (by (try dsimp only); omega) (by (try dsimp only); omega) (by (try dsimp only); omega)) _ _ (by (try dsimp only); omega) (by (try dsimp only); omega) (by (try dsimp only); omega))) ((first | (go_at_call 19; refine (SO.out _ (Below.refl _ _).drew).mono ?_; rintro e w' ⟨rfl, hb⟩)))) | fail
          all_goals
            have hF := belK2 ‹_ ∧ _ ∧ Below wr.heap.size wr _›
            go_wp2
            go_roundw
            case rel => exact ⟨k + 1, by go_num, by omega, F.out, hbW.trans (hF.mono hz)⟩
            case measure => (simp [intOf]; try omega)
      · have F := Lib.hid (show sameVs ps qs = true by
          rw [← hs, show k = L by omega, decide_eq_true_iff]
          rw [List.drop_of_length_le (by rw [HL.out]; exact Nat.le_refl _), List.drop_of_length_le (by rw [HM.out]; exact Nat.le_refl _)])
        have q1 : decide ((k : Int) < (L : Int)) = false := by simp; omega
        clear hs
        go_wp2
        go_ret
        exact ⟨by rw [F.out]; rfl, hbW⟩
  · have q0 : ((L : Int) != (M : Int)) = true := by simp; omega
    have F := Lib.hid (show sameVs ps qs = false by
      unfold sameVs
      rw [decide_eq_false_iff_not]
      intro e
      exact hLM (by rw [← HL.out, ← HM.out, e]))
    go_enter Try.func22, Try.ntmps22
    go_wp2
    go_ret
    exact ⟨by rw [F.out]; rfl, Below.refl _ _⟩
end Go.Proofs.Ytlgfnhapjhoelaa
