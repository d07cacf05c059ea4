/- Texts of paths, the document's own: what is parsed. -/
import Derived.Test.YtjjklchfcklahaaDoorRef8
import Derived.Test.YtjjklchfcklahaaDoorScriptPt
import Derived.Test.YtjjklchfcklahaaDoorRef7B
import Derived.Test.YtjjklchfcklahaaDoorRef7D
import Derived.Test.YtjjklchfcklahaaDoorApp8
namespace Go.Proofs.YtjjklchfcklahaaDoor
open Go.RowKit
set_option linter.unusedVariables false
set_option linter.unusedSimpArgs false
set_option maxHeartbeats 2000000
set_option maxRecDepth 100000

theorem JS.calls {G : Nat} {vs : List Int} {ps : List Pnt} {w1 x x' : World} {va v : Value} (h : JS G vs ps w1 x va v) (hb : Below x.heap.size x x') : JS G vs ps w1 x' va v :=
  ⟨h.tb.step (hb.mono h.tb.sz), ownsRow_after h.rv hb, ownsRow_after h.rp hb, h.ne⟩
/-- What a parsed text's answer holds. -/
def Parsed (w : World) (z : (List Int × List Pnt) × Nat × Int) (e : Ending) (w' : World) : Prop :=
  ∃ A B c d, e = .returned (.tuple #[PathA A z.1.1.length c B z.1.2.length d, .int .i64 (z.2.1 : Nat), .int .i64 z.2.2]) ∧ Vals w' w'.heap.size A (z.1.1.map iV) ∧ Cor w' w'.heap.size B z.1.2 ∧ z.1.2.length ≤ d ∧ Below w.heap.size w w'

theorem row_cap {w : World} {B : Nat} {e : TypeId} {k n m c : Nat} {A : Option Addr} {xs : List Value} (h : w.ownsRow B e k (.slice A n c) m xs) : n ≤ c := by
  obtain ⟨_, ⟨hv, _⟩ | ⟨g, cap, cur, hv, _, _, hn, _⟩⟩ := h
  · cases hv; exact Nat.le_refl _
  · cases hv; exact hn
theorem r8parse_any (s : ByteArray) (l : List UInt8) (w : World) (hs : s.data.toList = l) (hl : l.length ≤ 100000) :
    Calls Tryd.prog 13 #[.string s] w (Parsed w (parseR l)) := by
  obtain ⟨i0, ki, kz0, kz1, kz2⟩ := info_parts info_i
  obtain ⟨i1, hi, hz0, hz1, hz2⟩ := info_parts info_pt
  have HS := Lib.hid hs
  obtain ⟨L, hL⟩ : ∃ L, l.length = L := ⟨_, rfl⟩
  rw [hL] at hl
  have HL := Lib.hid hL
  clear hs hL
  go_enter Tryd.func13, Tryd.ntmps13
  go_upto_region 2 with fail
  refine any_gen (fun z => (z.cell? ⟨w.heap.size, 0, none⟩ = some (.slice none 0 0) ∧ z.cell? ⟨w.heap.size, 1, none⟩ = some (.slice none 0 0) ∧ z.frozen? ⟨w.heap.size, 0, none⟩ = false ∧ z.frozen? ⟨w.heap.size, 1, none⟩ = false) ∧ JS (w.heap.size + 1) [] [] z z (.slice none 0 0) (.slice none 0 0) ∧ Below w.heap.size w z) ⟨⟨by simp [go_sem], by simp [go_sem], by simp [go_sem], by simp [go_sem]⟩, ⟨⟨by simp [go_sem], by simp [go_sem], by simp [go_sem], by simp [go_sem], Below.refl _ _, by simp⟩, World.ownsRow_nil _ _ _ _, World.ownsRow_nil _ _ _ _, fun g hg => by cases hg⟩, ((Below.refl _ _).alloc (Nat.le_refl _) _).alloc (by simp) _⟩ ?_
  rintro w1 ⟨⟨c5, c6, e5, e6⟩, hj0, hb0⟩
  have HJ0 := Lib.hid hj0
  have hs1 := hj0.tb.sz
  clear hj0
  go_wp2
  go_loopw [6, 7] (fun s6 s7 wr => ∃ (now : Int) (k f : Nat) (vs : List Int) (ps : List Pnt) (va v : Value), s6 = .int .i64 now ∧ s7 = .int .i64 k ∧ (0 ≤ now ∧ now ≤ 5) ∧ (k ≤ L ∧ vs.length ≤ k ∧ ps.length ≤ k) ∧ (glue vs ps (parseS f (l.drop k) now) = parseS (l.length + 1) l 0 ∧ (l.drop k).length < f) ∧ JS (w.heap.size + 1) vs ps w1 wr va v) (fun _ s7 _ => L - (intOf s7).toNat)
  case atStart => exact ⟨0, 0, l.length + 1, [], [], _, _, rfl, rfl, by omega, ⟨Nat.zero_le _, Nat.le_refl _, Nat.le_refl _⟩, ⟨by rw [glue_nil, List.drop_zero], by simp⟩, HJ0.out⟩
  case round =>
    obtain ⟨now, k, f, vs, ps, va, v, rfl, rfl, hnow, ⟨hk, hvl, hpl⟩, ⟨hgl, hlen⟩, hJ⟩ := hrel
    have HGL := Lib.hid hgl
    have HLEN := Lib.hid hlen
    clear hgl hlen
    go_wp2_with fail
    refine (r8word_any s l k _ HS.out (by rw [HL.out]; omega) (by rw [HL.out]; exact hk)).mono ?_
    rintro e w2 ⟨t, b, rfl, ⟨ht, hb1, hb2, hb3⟩, rfl⟩
    obtain ⟨r, hr⟩ : ∃ r, l.drop k = r := ⟨_, rfl⟩
    have hrl : r.length = L - k := by rw [← hr, List.length_drop, HL.out]
    rw [hr] at HGL HLEN ht hb3
    obtain ⟨f, rfl⟩ : ∃ f', f = f' + 1 := ⟨f - 1, by have := HLEN.out; omega⟩
    have HR := Lib.hid hr
    have HB3 := Lib.hid hb3
    have hbL : (restB r).length = L - b := by rw [← hb3, List.length_drop, HL.out]
    have hbL2 : b ≤ L := by rw [← HL.out]; exact hb2
    have HWD := Lib.hid ht
    obtain ⟨W, hW⟩ : ∃ W, wordW (restB r) = W := ⟨_, rfl⟩
    rw [hW] at ht
    have HW := Lib.hid hW
    clear hr hb3 hb2 hW
    by_cases hW0 : W = []
    · have f1 : (t.toList == []) = true := by rw [ByteArray.toList_eq, ht, hW0]; rfl
      have f2 : t.toList.isEmpty = true := by rw [ByteArray.toList_eq, ht, hW0]; rfl
      have f3 : t.toList = [] := by rw [ByteArray.toList_eq, ht, hW0]
      have HS2 := Lib.hid (show parseS (l.length + 1) l 0 = .ok (vs, ps) by
        rw [← HGL.out, parse_stop f r now (by rw [HW.out, hW0])]; simp [glue])
      obtain ⟨A1, k1, hva, hl1, hV1⟩ := vals_of_row hJ.rv
      obtain ⟨A2, k2, hvb, hl2, hC2, -⟩ := cor_of_row hJ.rp
      rw [List.length_map] at hva
      subst hva
      subst hvb
      obtain ⟨E, hE⟩ : ∃ E, pathE vs ps = E := ⟨_, rfl⟩
      have CK0 := fun w hr hq => r7check_any A1 A2 k1 k2 vs ps w hr hq (by omega) (by omega)
      simp only [hE] at CK0
      have CK := Lib.hid CK0
      have HE := Lib.hid hE
      have HV := Lib.hid hV1
      have HC := Lib.hid hC2
      have HNC := Lib.hid (row_cap hJ.rp)
      have HJ := Lib.hid hJ
      have d0 := hJ.tb.c0
      have d1 := hJ.tb.c1
      clear hE CK0 hV1 hC2 hl1 hl2 hJ ht hW0
      go_wp2_with fail
      refine (CK.out _ HV.out HC.out).mono ?_
      rintro e w3 ⟨rfl, hb3⟩
      have hJ := HJ.out.calls hb3
      have HV3 := Lib.hid (HV.out.calls hb3)
      have HC3 := Lib.hid ((HC.out.step hb3).more hb3.size)
      have n0 := hJ.tb.c0
      have n1 := hJ.tb.c1
      have m5 := (hJ.tb.bel.cell (p := ⟨w.heap.size, 0, none⟩) (by dsimp only; omega)).trans c5
      have m6 := (hJ.tb.bel.cell (p := ⟨w.heap.size, 1, none⟩) (by dsimp only; omega)).trans c6
      have g5 := (hJ.tb.bel.frozen (p := ⟨w.heap.size, 0, none⟩) (by dsimp only; omega)).trans e5
      have g6 := (hJ.tb.bel.frozen (p := ⟨w.heap.size, 1, none⟩) (by dsimp only; omega)).trans e6
      have HF1 := Lib.hid (row_far hJ.rv (p := w.heap.size) (by omega))
      have HF2 := Lib.hid (row_far hJ.rp (p := w.heap.size) (by omega))
      have hbw := hb0.trans (hJ.tb.bel.mono (by omega))
      clear hb3 hJ c5 c6 e5 e6 d0 d1
      by_cases hE0 : E = 0
      · subst hE0
        have PR := Lib.hid (show parseR l = ((vs, ps), 0, 0) by rw [parse_fine HS2.out, if_pos HE.out])
        go_wp2
        refine bodyPost_ret (by simp [results, Tryd.results13, go_sem, *] <;> rfl) rfl ?_
        rw [PR.out]
        refine ⟨A1, A2, k1, k2, rfl, ?_, ?_, ?_, ?_⟩
        · have h := (HV3.out.set ⟨w.heap.size, 0, none⟩ (.slice A1 vs.length k1) HF1.out).set ⟨w.heap.size, 1, none⟩ (.slice A2 ps.length k2) HF1.out
          simpa [World.setCell] using h
        · have h := (HC3.out.set ⟨w.heap.size, 0, none⟩ (.slice A1 vs.length k1) HF2.out).set ⟨w.heap.size, 1, none⟩ (.slice A2 ps.length k2) HF2.out
          simpa [World.setCell] using h
        · exact HNC.out
        · exact (hbw.setCell (Nat.le_refl _) _).setCell (Nat.le_refl _) _
      · have PR := Lib.hid (show parseR l = (([], []), 0, E) by rw [parse_fine HS2.out, if_neg (by rw [HE.out]; exact hE0), HE.out])
        have q1 : (E != 0) = true := by simpa using hE0
        have q2 : (E == 0) = false := by simpa using hE0
        clear hE0
        go_wp2
        refine bodyPost_ret (by simp [results, Tryd.results13, go_sem, *] <;> rfl) rfl ?_
        rw [PR.out]
        exact ⟨none, none, 0, 0, rfl, fun h => by simp at h, fun h => by simp at h, Nat.le_refl _, (hbw.setCell (Nat.le_refl _) _).setCell (Nat.le_refl _) _⟩
    · have f1 : (t.toList == []) = false := by rw [ByteArray.toList_eq, ht]; simpa using hW0
      have f2 : t.toList.isEmpty = false := by rw [ByteArray.toList_eq, ht]; cases W with | nil => exact absurd rfl hW0 | cons _ _ => rfl
      have f3 : ¬ t.toList = [] := by rw [ByteArray.toList_eq, ht]; exact hW0
      have VB0 := fun w => r8verb_any t W w ht
      have hlv := letter_bd W
      have HL1 := Lib.hid (fun h => letter_ne (w := W) h)
      obtain ⟨lv, hlve⟩ : ∃ lv, letterV W = lv := ⟨_, rfl⟩
      simp only [hlve] at VB0
      rw [hlve] at hlv HL1
      have HLV := Lib.hid hlve
      have HW0 := Lib.hid (show wordW (restB r) ≠ [] by rw [HW.out]; exact hW0)
      have g5 := (hJ.tb.bel.frozen (p := ⟨w.heap.size, 0, none⟩) (by dsimp only; omega)).trans e5
      have g6 := (hJ.tb.bel.frozen (p := ⟨w.heap.size, 1, none⟩) (by dsimp only; omega)).trans e6
      have m5 := (hJ.tb.bel.cell (p := ⟨w.heap.size, 0, none⟩) (by dsimp only; omega)).trans c5
      have m6 := (hJ.tb.bel.cell (p := ⟨w.heap.size, 1, none⟩) (by dsimp only; omega)).trans c6
      have hbw := hb0.trans (hJ.tb.bel.mono (by omega))
      clear ht hW0 hlve
      by_cases hbad : lv = 0 ∧ (now = 0 ∨ now = 5)
      · have PR := Lib.hid (show parseR l = (([], []), b, 80) by
          rw [parse_err (n := L - b) (by rw [← HGL.out, parse_wrong f r now HW0.out (by rw [HW.out, HLV.out]; exact hbad), hbL]; rfl), HL.out]
          congr 2; omega)
        obtain ⟨rfl, hnw⟩ := hbad
        have VB := Lib.hid VB0
        clear VB0
        rcases hnw with rfl | rfl
        all_goals
          go_wp2_with fail
          refine (VB.out _).mono ?_
          rintro e w3 ⟨rfl, rfl⟩
          go_wp2
          refine bodyPost_ret (by simp [results, Tryd.results13, go_sem, *] <;> rfl) rfl ?_
          rw [PR.out]
          exact ⟨none, none, 0, 0, rfl, fun h => by simp at h, fun h => by simp at h, Nat.le_refl _, (hbw.setCell (Nat.le_refl _) _).setCell (Nat.le_refl _) _⟩
      · have VB := Lib.hid VB0
        clear VB0
        have HBAD := Lib.hid (show ¬ (letterV (wordW (restB r)) = 0 ∧ (now = 0 ∨ now = 5)) by rw [HW.out, HLV.out]; exact hbad)
        obtain ⟨nv, hnv⟩ : ∃ nv, nowV W now = nv := ⟨_, rfl⟩
        have hnvb : 1 ≤ nv ∧ nv ≤ 5 := by
          rw [← hnv]; unfold nowV; rw [HLV.out]
          split
          · omega
          · split <;> omega
        obtain ⟨T, hT⟩ : ∃ T : Nat, takesV nv = T := ⟨(takesV nv).toNat, by rcases (show nv = 1 ∨ nv = 2 ∨ nv = 3 ∨ nv = 4 ∨ nv = 5 by omega) with h | h | h | h | h <;> rw [h] <;> decide⟩
        obtain ⟨b2, hbe⟩ : ∃ b2, b2 = if 0 < lv then b + 1 else b := ⟨_, rfl⟩
        have HD2 := Lib.hid (show l.drop b2 = if 0 < letterV (wordW (restB r)) then restW (restB r) else restB r by
          rw [hbe, HW.out, HLV.out]
          split
          · rw [← HL1.out (by assumption), ← HW.out]; exact rest_at HB3.out rfl
          · exact HB3.out)
        have hrb : 1 ≤ (restB r).length := by
          cases hrr : restB r with
          | nil => have := HW0.out; rw [hrr] at this; exact absurd rfl this
          | cons _ _ => simp
        have hb2L : b ≤ b2 ∧ b2 ≤ b + 1 ∧ b2 ≤ L := by rw [hbe]; split <;> omega
        have HRD := Lib.hid (parse_round f r now HW0.out HBAD.out)
        have HT := Lib.hid hT
        have HNV := Lib.hid hnv
        go_wp2_with fail
        refine (VB.out _).mono ?_
        rintro e w3 ⟨rfl, rfl⟩
        go_upto_if 32 with (fail)
        go_cut [6, 7] (fun s6 s7 wx => wr = wx ∧ s6 = .int .i64 nv ∧ s7 = .int .i64 (b2 : Nat))
        case first =>
          by_cases h0 : 0 < lv
          · have p1 : decide (0 < lv) = true := by simpa using h0
            have p2 : decide (lv > 0) = true := by simpa using h0
            have p3 : IntKind.i64.wrap ((b : Int) + 1) = (b : Int) + 1 := IntWalk.i64_in _ (by omega)
            have F1 := Lib.hid (show nv = lv by rw [← hnv]; unfold nowV; rw [HLV.out, if_pos h0])
            have F2 := Lib.hid (show b2 = b + 1 by rw [hbe, if_pos h0])
            clear hnv hbe hT hbad
            go_wp2_with fail
            go_meet
            exact ⟨rfl, by rw [F1.out], by rw [F2.out]; go_num⟩
          · have hl0 : lv = 0 := by omega
            have F2 := Lib.hid (show b2 = b by rw [hbe, if_neg h0])
            have hn0 : now ≠ 0 := fun h => hbad ⟨hl0, .inl h⟩
            have hn5 : now ≠ 5 := fun h => hbad ⟨hl0, .inr h⟩
            have F1 := Lib.hid (show nv = if now = 1 then 2 else now by rw [← hnv]; unfold nowV; rw [HLV.out, if_neg h0])
            subst hl0
            clear hnv hbe hT h0 hbad
            by_cases h1 : now = 1
            · subst h1
              go_wp2_with fail
              go_meet
              exact ⟨rfl, by rw [F1.out]; rfl, by rw [F2.out]⟩
            · have p1 : (now == 0) = false := by simpa using hn0
              have p2 : (now == 5) = false := by simpa using hn5
              have p3 : (now == 1) = false := by simpa using h1
              have F3 := Lib.hid (show nv = now by rw [F1.out, if_neg h1])
              clear hn0 hn5 h1
              go_wp2_with fail
              go_meet
              exact ⟨rfl, by rw [F3.out], by rw [F2.out]⟩
        case rest =>
          obtain ⟨rfl, rfl, rfl⟩ := hcut
          have k0 := hJ.tb.c0
          have rv := hJ.rv
          have hsz := hJ.tb.sz
          clear hnv hbe hT hbad g5 g6 m5 m6 hbw f1 f2 f3
          go_upto_region 15 with fail
          iterate 13 (first | go_step | go_simp)
          refine wpList_append_full _ rfl _ _ rfl (w.heap.size + 1 + 1) i0 _ 1 8 und_is und_is ki kz0 kz1 kz2 rfl (by omega) va vs.length (vs.map iV) (by rfl) (rv.alloc _) (some ⟨wr.heap.size, 0, none⟩) 1 1 [.int .i64 nv] (by rfl) (by rfl) (fun j u hu => ⟨_, rfl, World.news_of_block (cs := #[.int .i64 nv]) (t := 3) (fr := (0, 0)) (heap_alloc_new wr _) j u hu⟩) (by simp [Value.oneCell']) (by simp) (by simp [maxLen]; omega) (by omega) (by simp; omega) ?_
          intro a5 c5' w5 ap5
          have hJ5 := Lib.hid ((hJ.alloc _).pushV (news := [nv]) rfl ap5)
          have ky := (hJ.alloc _).afterV ap5
          have m0 := ky.c0
          have n0 := ky.f0
          clear ap5 ky k0 rv hsz hJ
          go_upto_region 16 with fail
          refine any_gen (fun z => JS (w.heap.size + 1) (vs ++ [nv]) ps w1 z (.slice a5 (vs.length + 1) c5') v) hJ5.out ?_
          clear hJ5 m0 n0
          rintro w6 hJ6
          have HJ6 := Lib.hid hJ6
          clear hJ6
          go_wp2
          go_loopw [7, 11] (fun s7 s11 wx => ∃ (kk a2 : Nat) (q : List Pnt) (va v : Value), s7 = .int .i64 a2 ∧ s11 = .int .i64 kk ∧ kk ≤ T ∧ q.length = kk ∧ (b2 + kk ≤ a2 ∧ a2 ≤ L) ∧ glueP q (ptsS (T - kk) (l.drop a2)) = ptsS T (l.drop b2) ∧ JS (w.heap.size + 1) (vs ++ [nv]) (ps ++ q) w1 wx va v) (fun _ s11 _ => T - (intOf s11).toNat)
          case atStart => exact ⟨0, b2, [], _, _, rfl, rfl, Nat.zero_le _, rfl, ⟨by omega, hb2L.2.2⟩, by rw [glueP_nil]; rfl, by rw [List.append_nil]; exact HJ6.out⟩
          case round =>
            clear HJ6
            obtain ⟨kk, a2, q, va2, v2, rfl, rfl, hkk, hql, ⟨ha1, ha2⟩, hgp, hJ⟩ := hrel
            have HGP := Lib.hid hgp
            clear hgp
            obtain ⟨wo, hwo⟩ : ∃ wo : World, wo = wr := ⟨_, rfl⟩
            subst hwo
            have TK0 := fun w => r7takes_any nv w
            rw [HT.out] at TK0
            have TK := Lib.hid TK0
            clear TK0
            by_cases hkt : kk < T
            · have q1 : decide ((kk : Int) < (T : Int)) = true := by simp; omega
              go_wp2_with fail
              refine (TK.out _).mono ?_
              rintro e w7 ⟨rfl, hb7⟩
              have HJ7 := Lib.hid (hJ.calls hb7)
              have hz7 := HJ7.out.tb.sz
              clear hJ hb7
              go_upto_region 20 with fail
              refine any_gen (fun z => z.cell? ⟨w7.heap.size, 0, none⟩ = some (.int .i64 0) ∧ z.cell? ⟨w7.heap.size, 1, none⟩ = some (.int .i64 0) ∧ z.frozen? ⟨w7.heap.size, 0, none⟩ = false ∧ z.frozen? ⟨w7.heap.size, 1, none⟩ = false ∧ Below w7.heap.size w7 z) ⟨by simp [go_sem], by simp [go_sem], by simp [go_sem], by simp [go_sem], (Below.refl _ _).alloc (Nat.le_refl _) _⟩ ?_
              rintro w8 ⟨q0, q1x, z0, z1, hbz⟩
              have HQ := Lib.hid (And.intro q0 (And.intro q1x (And.intro z0 (And.intro z1 hbz))))
              obtain ⟨r2, hr2⟩ : ∃ r2, l.drop a2 = r2 := ⟨_, rfl⟩
              have HR2 := Lib.hid hr2
              have hr2l : r2.length = L - a2 := by rw [← hr2, List.length_drop, HL.out]
              clear q0 q1x z0 z1 hbz hr2
              go_wp2
              go_loopw [7, 13] (fun s7 s13 wx => ∃ (j a3 : Nat) (x0 x1 : Int), s7 = .int .i64 a3 ∧ s13 = .int .i64 j ∧ (a2 ≤ a3 ∧ a3 ≤ L) ∧ ((j = 0 ∧ a3 = a2 ∧ x0 = 0 ∧ x1 = 0) ∨ ((j = 1 ∧ numV (wordW (restB r2)) = some x0 ∧ l.drop a3 = restW (restB r2) ∧ x1 = 0 ∧ a2 + 1 ≤ a3) ∨ (j = 2 ∧ numV (wordW (restB r2)) = some x0 ∧ numV (wordW (restB (restW (restB r2)))) = some x1 ∧ l.drop a3 = restW (restB (restW (restB r2))) ∧ a2 + 2 ≤ a3))) ∧ wx.cell? ⟨w7.heap.size, 0, none⟩ = some (.int .i64 x0) ∧ wx.cell? ⟨w7.heap.size, 1, none⟩ = some (.int .i64 x1) ∧ wx.frozen? ⟨w7.heap.size, 0, none⟩ = false ∧ wx.frozen? ⟨w7.heap.size, 1, none⟩ = false ∧ Below w7.heap.size w7 wx) (fun _ s13 _ => 2 - (intOf s13).toNat)
              case atStart => exact ⟨0, a2, 0, 0, rfl, rfl, ⟨Nat.le_refl _, ha2⟩, .inl ⟨rfl, rfl, rfl, rfl⟩, HQ.out.1, HQ.out.2.1, HQ.out.2.2.1, HQ.out.2.2.2.1, HQ.out.2.2.2.2⟩
              case round =>
                clear HQ
                obtain ⟨j, a3, x0, x1, rfl, rfl, ⟨ha3, ha3L⟩, hst, q0, q1x, z0, z1, hbz⟩ := hrel
                have hz8 := hbz.size
                rcases hst with ⟨rfl, rfl, rfl, rfl⟩ | ⟨rfl, hn0, ha3d, rfl, ha3b⟩ | ⟨rfl, hn0, hn1, ha3d, ha3b⟩
                · skip
                  go_wp2_with fail
                  refine (r8word_any s l a3 _ HS.out (by rw [HL.out]; omega) (by rw [HL.out]; omega)).mono ?_
                  rintro e wz ⟨tJ, pJ, rfl, ⟨htw, hp1, hp2, hp3⟩, rfl⟩
                  rw [HR2.out] at htw hp3
                  have HX := Lib.hid (And.intro htw hp3)
                  have hpL : pJ ≤ L := by rw [← HL.out]; exact hp2
                  have htl : tJ.size = (wordW (restB (r2))).length := by rw [← htw, size_list]
                  have hpl3 : (restB (r2)).length = L - pJ := by rw [← hp3, List.length_drop, HL.out]
                  have hwl : (wordW (restB (r2))).length ≤ (restB (r2)).length := by
                    have := congrArg List.length (word_rest (restB (r2)))
                    rw [List.length_append] at this
                    omega
                  have hts : tJ.size < 9223372036854775808 := by omega
                  obtain ⟨n, en, hpe⟩ := parse_parts (wordW (restB (r2)))
                  have PA0 := fun w => rparse_any tJ w hts
                  simp only [htw, hpe] at PA0
                  have PA := Lib.hid PA0
                  have hnum := num_of hpe
                  clear htw hp2 hp3 PA0 hpe hts
                  go_wp2_with fail
                  refine (PA.out _).mono ?_
                  rintro e wz ⟨rfl, rfl⟩
                  by_cases he0 : en = 0
                  · subst he0
                    have HNUM := Lib.hid hnum
                    have HRST := Lib.hid (show l.drop (pJ + tJ.size) = restW (restB (r2)) by
                      rw [htl]; exact rest_at HX.out.2 rfl)
                    have hpos : 1 ≤ tJ.size := by
                      rw [htl]
                      have := num_ne HNUM.out
                      cases hw : wordW (restB (r2)) with
                      | nil => exact absurd hw this
                      | cons _ _ => simp
                    have p5 : IntKind.i64.wrap ((pJ : Int) + (tJ.size : Int)) = ((pJ + tJ.size : Nat) : Int) := by rw [IntWalk.i64_in _ (by omega)]; omega
                    clear hnum
                    go_wp2
                    go_roundw
                    case rel => exact ⟨1, pJ + tJ.size, n, 0, by go_num, rfl, ⟨by omega, by omega⟩, .inr (.inl ⟨rfl, HNUM.out, HRST.out, rfl, by omega⟩), World.cell?_setCell_same _ _ _ q0, (World.cell?_setCell_other _ _ _ _ (by simp)).trans q1x, by rw [World.frozen?_setCell]; exact z0, by rw [World.frozen?_setCell]; exact z1, hbz.setCell (p := ⟨w7.heap.size, 0, none⟩) (Nat.le_refl _) _⟩
                    case measure => (simp [intOf]; try omega)
                  · have HNUM := Lib.hid (show numV (wordW (restB (r2))) = none by rw [hnum, if_neg he0])
                    have PR := Lib.hid (show parseR l = (([], []), pJ, 80) by
                      have h1 := HGP.out
                      rw [show T - kk = (T - (kk + 1)) + 1 by omega, HR2.out, pts_bad1 HNUM.out] at h1
                      have h2 := HRD.out
                      rw [HW.out, HNV.out, HT.out, Int.toNat_natCast, ← HW.out, ← HD2.out, ← h1] at h2
                      rw [parse_err (n := L - pJ) (by rw [← HGL.out, h2, hpl3]; rfl), HL.out]
                      congr 2; omega)
                    have q1 : (en != 0) = true := by simpa using he0
                    have q2 : (en == 0) = false := by simpa using he0
                    have hJz := HJ7.out.calls hbz
                    have g5 := (hJz.tb.bel.frozen (p := ⟨w.heap.size, 0, none⟩) (by dsimp only; omega)).trans e5
                    have g6 := (hJz.tb.bel.frozen (p := ⟨w.heap.size, 1, none⟩) (by dsimp only; omega)).trans e6
                    have m5 := (hJz.tb.bel.cell (p := ⟨w.heap.size, 0, none⟩) (by dsimp only; omega)).trans c5
                    have m6 := (hJz.tb.bel.cell (p := ⟨w.heap.size, 1, none⟩) (by dsimp only; omega)).trans c6
                    have hbw := hb0.trans (hJz.tb.bel.mono (by omega))
                    clear hnum he0 hJz
                    go_wp2
                    refine bodyPost_ret (by simp [results, Tryd.results13, go_sem, *] <;> rfl) rfl ?_
                    rw [PR.out]
                    exact ⟨none, none, 0, 0, rfl, fun h => by simp at h, fun h => by simp at h, Nat.le_refl _, (hbw.setCell (Nat.le_refl _) _).setCell (Nat.le_refl _) _⟩
                · have HN0 := Lib.hid hn0
                  have HA3 := Lib.hid ha3d
                  clear hn0 ha3d
                  go_wp2_with fail
                  refine (r8word_any s l a3 _ HS.out (by rw [HL.out]; omega) (by rw [HL.out]; omega)).mono ?_
                  rintro e wz ⟨tJ, pJ, rfl, ⟨htw, hp1, hp2, hp3⟩, rfl⟩
                  rw [HA3.out] at htw hp3
                  have HX := Lib.hid (And.intro htw hp3)
                  have hpL : pJ ≤ L := by rw [← HL.out]; exact hp2
                  have htl : tJ.size = (wordW (restB (restW (restB r2)))).length := by rw [← htw, size_list]
                  have hpl3 : (restB (restW (restB r2))).length = L - pJ := by rw [← hp3, List.length_drop, HL.out]
                  have hwl : (wordW (restB (restW (restB r2)))).length ≤ (restB (restW (restB r2))).length := by
                    have := congrArg List.length (word_rest (restB (restW (restB r2))))
                    rw [List.length_append] at this
                    omega
                  have hts : tJ.size < 9223372036854775808 := by omega
                  obtain ⟨n, en, hpe⟩ := parse_parts (wordW (restB (restW (restB r2))))
                  have PA0 := fun w => rparse_any tJ w hts
                  simp only [htw, hpe] at PA0
                  have PA := Lib.hid PA0
                  have hnum := num_of hpe
                  clear htw hp2 hp3 PA0 hpe hts
                  go_wp2_with fail
                  refine (PA.out _).mono ?_
                  rintro e wz ⟨rfl, rfl⟩
                  by_cases he0 : en = 0
                  · subst he0
                    have HNUM := Lib.hid hnum
                    have HRST := Lib.hid (show l.drop (pJ + tJ.size) = restW (restB (restW (restB r2))) by
                      rw [htl]; exact rest_at HX.out.2 rfl)
                    have hpos : 1 ≤ tJ.size := by
                      rw [htl]
                      have := num_ne HNUM.out
                      cases hw : wordW (restB (restW (restB r2))) with
                      | nil => exact absurd hw this
                      | cons _ _ => simp
                    have p5 : IntKind.i64.wrap ((pJ : Int) + (tJ.size : Int)) = ((pJ + tJ.size : Nat) : Int) := by rw [IntWalk.i64_in _ (by omega)]; omega
                    clear hnum
                    go_wp2
                    go_roundw
                    case rel => exact ⟨2, pJ + tJ.size, x0, n, by go_num, rfl, ⟨by omega, by omega⟩, .inr (.inr ⟨rfl, HN0.out, HNUM.out, HRST.out, by omega⟩), (World.cell?_setCell_other _ _ _ _ (by simp)).trans q0, World.cell?_setCell_same _ _ _ q1x, by rw [World.frozen?_setCell]; exact z0, by rw [World.frozen?_setCell]; exact z1, hbz.setCell (p := ⟨w7.heap.size, 1, none⟩) (Nat.le_refl _) _⟩
                    case measure => (simp [intOf]; try omega)
                  · have HNUM := Lib.hid (show numV (wordW (restB (restW (restB r2)))) = none by rw [hnum, if_neg he0])
                    have PR := Lib.hid (show parseR l = (([], []), pJ, 80) by
                      have h1 := HGP.out
                      rw [show T - kk = (T - (kk + 1)) + 1 by omega, HR2.out, pts_bad2 HN0.out HNUM.out] at h1
                      have h2 := HRD.out
                      rw [HW.out, HNV.out, HT.out, Int.toNat_natCast, ← HW.out, ← HD2.out, ← h1] at h2
                      rw [parse_err (n := L - pJ) (by rw [← HGL.out, h2, hpl3]; rfl), HL.out]
                      congr 2; omega)
                    have q1 : (en != 0) = true := by simpa using he0
                    have q2 : (en == 0) = false := by simpa using he0
                    have hJz := HJ7.out.calls hbz
                    have g5 := (hJz.tb.bel.frozen (p := ⟨w.heap.size, 0, none⟩) (by dsimp only; omega)).trans e5
                    have g6 := (hJz.tb.bel.frozen (p := ⟨w.heap.size, 1, none⟩) (by dsimp only; omega)).trans e6
                    have m5 := (hJz.tb.bel.cell (p := ⟨w.heap.size, 0, none⟩) (by dsimp only; omega)).trans c5
                    have m6 := (hJz.tb.bel.cell (p := ⟨w.heap.size, 1, none⟩) (by dsimp only; omega)).trans c6
                    have hbw := hb0.trans (hJz.tb.bel.mono (by omega))
                    clear hnum he0 hJz
                    go_wp2
                    refine bodyPost_ret (by simp [results, Tryd.results13, go_sem, *] <;> rfl) rfl ?_
                    rw [PR.out]
                    exact ⟨none, none, 0, 0, rfl, fun h => by simp at h, fun h => by simp at h, Nat.le_refl _, (hbw.setCell (Nat.le_refl _) _).setCell (Nat.le_refl _) _⟩
                · have HN0 := Lib.hid hn0
                  have HN1 := Lib.hid hn1
                  have HA3 := Lib.hid ha3d
                  obtain ⟨pq, hpqe⟩ : ∃ pq, ps ++ q = pq := ⟨_, rfl⟩
                  have HPQE := Lib.hid hpqe
                  have hJ := HJ7.out.calls hbz
                  rw [hpqe] at hJ
                  have k1 := hJ.tb.c1
                  have rp := hJ.rp
                  have hsz := hJ.tb.sz
                  have HG2 := Lib.hid (show glueP (q ++ [(x0, x1)]) (ptsS (T - (kk + 1)) (l.drop a3)) = ptsS T (l.drop b2) by
                    rw [← glueP_glueP, HA3.out, ← pts_good HN0.out HN1.out, ← HR2.out, show T - (kk + 1) + 1 = T - kk by omega]; exact HGP.out)
                  have hpq : pq.length ≤ 200000 := by rw [← hpqe, List.length_append]; omega
                  clear hpqe hn0 hn1 ha3d
                  go_upto_region 29 with fail
                  iterate 25 (first | go_step | go_simp)
                  refine wpList_append_full _ rfl _ _ rfl (w.heap.size + 1 + 1) i1 _ 2 16 und_pt und_pt hi hz0 hz1 hz2 rfl (by omega) v2 pq.length (flatP pq) (by rfl) (rp.alloc _) (some ⟨wr.heap.size, 0, none⟩) 1 1 [.int .i64 x0, .int .i64 x1] (by rfl) (by rfl) (fun j u hu => ⟨_, rfl, World.news_of_block (cs := #[.int .i64 x0, .int .i64 x1]) (t := 44) (fr := (0, 0)) (heap_alloc_new wr _) j u hu⟩) (by simp [Value.oneCell']) (by simp) (by simp [maxLen]; omega) (by omega) (by simp; omega) ?_
                  intro a7 c7 w9 ap7
                  have hJ8 := Lib.hid ((hJ.alloc _).pushP (news := [(x0, x1)]) rfl ap7)
                  have ky := (hJ.alloc _).afterP ap7
                  have m1 := ky.c1
                  have n1 := ky.f1
                  have HJ8 := Lib.hid (show JS (w.heap.size + 1) (vs ++ [nv]) (ps ++ (q ++ [(x0, x1)])) w1 _ va2 _ by rw [← List.append_assoc, HPQE.out]; exact hJ8.out)
                  have p5 : IntKind.i64.wrap ((kk : Int) + 1) = (kk : Int) + 1 := IntWalk.i64_in _ (by omega)
                  clear ap7 ky k1 rp hsz hJ hJ8 q0 q1x z0 z1 hbz
                  go_wp2
                  go_roundw
                  case rel => exact ⟨kk + 1, a3, q ++ [(x0, x1)], va2, _, by go_num, by go_num, by omega, by simp [hql], ⟨by omega, by omega⟩, HG2.out, HJ8.out⟩
                  case measure => (simp [intOf]; try omega)
            · have hkT : kk = T := by omega
              have q1 : decide ((kk : Int) < (T : Int)) = false := by simp; omega
              have HP0 := Lib.hid (show ptsS T (l.drop b2) = .ok (q, l.drop a2) by
                rw [← HGP.out, hkT, Nat.sub_self]; unfold ptsS glueP; simp)
              have hpt : ptsS (takesV (nowV (wordW (restB r)) now)).toNat (if 0 < letterV (wordW (restB r)) then restW (restB r) else restB r) = .ok (q, l.drop a2) := by
                rw [← HD2.out, HW.out, HNV.out, HT.out, Int.toNat_natCast]; exact HP0.out
              have hlt := round_left HW0.out HBAD.out hnow hpt
              have ha2l : (l.drop a2).length = L - a2 := by rw [List.length_drop, HL.out]
              have HGN := Lib.hid (show glue (vs ++ [nv]) (ps ++ q) (parseS f (l.drop a2) nv) = parseS (l.length + 1) l 0 by
                rw [← HGL.out, HRD.out, hpt, ← glue_glue]
                simp only [HW.out, HNV.out])
              have hlf : (l.drop a2).length < f := by have := HLEN.out; omega
              have HLF := Lib.hid hlf
              have HPQ := Lib.hid (show (ps ++ q).length ≤ a2 by rw [List.length_append]; omega)
              have hka : k < a2 := by omega
              clear hpt hlt ha2l hlf
              go_wp2_with fail
              refine (TK.out _).mono ?_
              rintro e w7 ⟨rfl, hb7⟩
              have HJ7 := Lib.hid (hJ.calls hb7)
              clear hJ hb7
              go_wp2
              go_roundw
              case rel => exact ⟨nv, a2, f, vs ++ [nv], ps ++ q, va2, v2, rfl, rfl, by omega, ⟨by omega, by simp; omega, HPQ.out⟩, ⟨HGN.out, HLF.out⟩, HJ7.out⟩
              case measure => (simp [intOf]; try omega)
end Go.Proofs.YtjjklchfcklahaaDoor
