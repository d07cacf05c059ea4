/- Lists of pieces: its. -/
import Derived.Test.YtlgfnhapjhoelaaRef6F
namespace Go.Proofs.Ytlgfnhapjhoelaa
open Go.RowKit
set_option linter.unusedVariables false
set_option linter.unusedSimpArgs false
set_option maxHeartbeats 8000000
set_option maxRecDepth 100000

/-- The slice at A holds these values, a cell each. -/
def Vals (w : World) (B : Nat) (A : Option Addr) (vs : List Value) : Prop :=
  0 < vs.length → ∃ ad, A = some ad ∧ ad.block < B ∧ ∀ (i : Nat) (u : Value), vs[i]? = some u → w.cell? (ad.add i) = some u
theorem Vals.step {w w' : World} {B : Nat} {A : Option Addr} {vs : List Value} (h : Vals w B A vs) (hb : Below B w w') : Vals w' B A vs := fun hn => by
  obtain ⟨ad, e, hB, hc⟩ := h hn
  exact ⟨ad, e, hB, fun i u hu => (hb.cell (by rw [block_add]; exact hB)).trans (hc i u hu)⟩
theorem Vals.more {w : World} {B B' : Nat} {A : Option Addr} {vs : List Value} (h : Vals w B A vs) (hB : B ≤ B') : Vals w B' A vs := fun hn => by
  obtain ⟨ad, e, h1, hc⟩ := h hn
  exact ⟨ad, e, by omega, hc⟩
theorem Vals.at_ {w : World} {B : Nat} {A : Option Addr} {vs : List Value} (h : Vals w B A vs) {i : Nat} {u : Value} (hp : vs[i]? = some u) :
    ∃ ad, A = some ad ∧ ad.block < B ∧ w.cell? (ad.add i) = some u := by
  have hi := (List.getElem?_eq_some_iff.1 hp).1
  obtain ⟨ad, e, hB, hc⟩ := h (by omega)
  exact ⟨ad, e, hB, hc i u hp⟩
theorem vals_of_row {w : World} {B : Nat} {e : TypeId} {v : Value} {n : Nat} {vs : List Value} (h : w.ownsRow B e 1 v n vs) : ∃ A cap, v = .slice A vs.length cap ∧ vs.length = n ∧ Vals w w.heap.size A vs := by
  obtain ⟨hl, ⟨hv, hn⟩ | ⟨g, cap, cur, hv, hB, hh, hr⟩⟩ := h
  · have h0 : vs.length = 0 := by omega
    exact ⟨none, 0, by rw [hv, h0], by omega, fun h => by omega⟩
  · have h0 : vs.length = n := by omega
    have h2 : w.ownsRow B e 1 (.slice (some ⟨g, 0, none⟩) n cap) n vs := ⟨hl, .inr ⟨g, cap, cur, rfl, hB, hh, hr⟩⟩
    obtain ⟨hg, hc⟩ := row_cell h2
    refine ⟨some ⟨g, 0, none⟩, cap, by rw [hv, h0], h0, fun _ => ⟨⟨g, 0, none⟩, rfl, hg, fun i u hu => ?_⟩⟩
    rw [show (⟨g, 0, none⟩ : Addr).add i = ⟨g, i, none⟩ by unfold Addr.add; split <;> simp_all]
    exact hc i u hu

theorem its_any (A : Option Addr) (cap : Nat) (vs : List Value) (w : World) (hr : Vals w w.heap.size A vs) (hl : vs.length ≤ 16) (h1 : ∀ u ∈ vs, ∃ a n c, u = .slice a n c) :
    Calls Try.prog 23 #[.slice A vs.length cap] w fun e w' => ∃ v, e = .returned v ∧ w'.ownsRow w.heap.size 28 1 v vs.length vs ∧ Below w.heap.size w w' := by
  obtain ⟨i1, ki, kz0, kz1, kz2⟩ := info_parts info_pc
  have HR := Lib.hid hr
  have H1 := Lib.hid h1
  clear hr h1
  obtain ⟨L, hL⟩ : ∃ L, vs.length = L := ⟨_, rfl⟩
  rw [hL] at hl ⊢
  have HL := Lib.hid hL
  clear hL
  go_enter Try.func23, Try.ntmps23
  go_wp2
  go_loopw [3, 4] (fun v s4 wr => ∃ k : Nat, s4 = .int .i64 k ∧ k ≤ L ∧ wr.ownsRow w.heap.size 28 1 v k (vs.take k) ∧ Below w.heap.size w wr) (fun _ s4 _ => L - (intOf s4).toNat)
  case atStart =>
    refine ⟨0, rfl, Nat.zero_le _, ?_, ?_⟩
    · have h0 := World.ownsRow_made (size := 1) (e := 28) (base := w.heap.size) w #[] 0 (Nat.le_refl _) (Nat.zero_le _) rfl
      exact h0
    · repeat (first | exact Below.refl _ _ | refine Below.alloc ?_ (by simp; try omega) _)
  case round =>
    obtain ⟨k, rfl, hk, hown, hbW⟩ := hrel
    by_cases hlt : k < L
    · obtain ⟨u, hp⟩ : ∃ u, vs[k]? = some u := ⟨_, List.getElem?_eq_getElem (by rw [HL.out]; exact hlt)⟩
      have hu1 := H1.out u (List.mem_of_getElem? hp)
      obtain ⟨a, n, c, rfl⟩ := hu1
      obtain ⟨ad, rfl, hB, c1⟩ := (HR.out.step hbW).at_ hp
      have HF := Lib.hid (show vs.take (k + 1) = vs.take k ++ [.slice a n c] by rw [List.take_add_one, hp]; rfl)
      obtain ⟨pf, hpf⟩ : ∃ pf, vs.take k = pf := ⟨_, rfl⟩
      rw [hpf] at hown HF
      clear hpf hp
      have hsz := hbW.size
      have q2 : decide ((k : Int) < (L : Int)) = true := by simp; omega
      have q3 : (0 : Int) ≤ (k : Int) := by omega
      have q4 : (k : Int) < (L : Int) := by omega
      have q5 : IntKind.i64.wrap ((k : Int) + 1) = (k : Int) + 1 := IntWalk.i64_in _ (by omega)
      have hBk : (ad.add k).block < w.heap.size := by rw [block_add]; exact hB
      go_upto_region 5 with fail
      iterate 10 go_step
      iterate 9 (first | go_step | go_simp)
      refine wpList_append_lies _ rfl _ _ _ rfl w.heap.size 28 i1 _ 1 24 und_pcs ki kz0 kz1 kz2 rfl (by omega) u3 k _ (by rfl) (hown.alloc _) ⟨wr.heap.size, 0, none⟩ 1 1 [.slice a n c] (by rfl) (by rfl) (World.news_of_block (cs := #[.slice a n c]) (t := 28) (fr := (0, 0)) (heap_alloc_new wr _)) (by simp [Value.oneCell']) (by omega) (by simp [maxLen]; omega) (by omega) (by simp; omega) _ rfl ?_
      intro gg cap3 w1 hown2 hgrow hat hlt2
      have hge := ownsRow_ge hown
      clear hown
      go_wp2
      all_goals
        go_roundw
        case rel => exact ⟨k + 1, by go_num, by omega, by rw [HF.out]; exact hown2, (hbW.alloc (by omega) _).grown hgrow (by simp; omega) hge⟩
        case measure => (simp [intOf]; try omega)
    · have hkL : k = L := by omega
      have q2 : decide ((k : Int) < (L : Int)) = false := by simp; omega
      have hown2 := Lib.hid (show wr.ownsRow w.heap.size 28 1 u3 L vs by rw [hkL, show vs.take L = vs by rw [← HL.out, List.take_length]] at hown; exact hown)
      clear hown
      go_wp2
      refine bodyPost_ret (by simp [results, Try.results23, go_sem] <;> rfl) rfl ⟨u3, rfl, hown2.out, ?_⟩
      repeat (first | exact hbW | refine Below.drew ?_ | refine below_dN ?_ _)
end Go.Proofs.Ytlgfnhapjhoelaa
