/- What the document's own layer 6 answers: Shift; rows of points that are appended to. -/
import Derived.Test.YtlgfnhapjhoelaaRef6
import Derived.OwnWalk
import Derived.Deep.AppendLies
namespace Go.Proofs.Ytlgfnhapjhoelaa
open Go.RowKit
set_option linter.unusedVariables false
set_option linter.unusedSimpArgs false
set_option maxHeartbeats 8000000
set_option maxRecDepth 100000

theorem ownsRow_after {B : Nat} {e : TypeId} {k : Nat} {v : Value} {n : Nat} {xs : List Value} {w w' : World} (h : w.ownsRow B e k v n xs) (hb : Below w.heap.size w w') : w'.ownsRow B e k v n xs := by
  obtain ⟨hl, h0 | ⟨g, cap, cur, hv, hB, hh, r⟩⟩ := h
  · exact ⟨hl, .inl h0⟩
  · have hg : g < w.heap.size := by
      rcases Nat.lt_or_ge g w.heap.size with h1 | h1
      · exact h1
      · rw [Array.getElem?_eq_none h1] at hh; cases hh
    exact ⟨hl, .inr ⟨g, cap, cur, hv, hB, (hb.block g hg).trans hh, r⟩⟩
theorem ownsRow_mono {w : World} {B B' : Nat} {e : TypeId} {k : Nat} {v : Value} {n : Nat} {xs : List Value} (h : w.ownsRow B e k v n xs) (hb : B' ≤ B) : w.ownsRow B' e k v n xs :=
  ⟨h.1, h.2.imp id fun ⟨g, cap, cur, h1, h2, h3⟩ => ⟨g, cap, cur, h1, Nat.le_trans hb h2, h3⟩⟩
theorem ownsRow_ge {w : World} {B : Nat} {e : TypeId} {k : Nat} {v : Value} {n : Nat} {xs : List Value} (h : w.ownsRow B e k v n xs) : ∀ g, v.ownBlock = some g → B ≤ g := fun g hg => by
  obtain ⟨hl, ⟨hv, _⟩ | ⟨g', cap, cur, hv, hB, _⟩⟩ := h
  · subst hv; cases hg
  · subst hv; cases hg; exact hB
theorem kB_call {B : Nat} {w0 wa w' : World} {p0 p1 p2 p3 : Addr} {u0 u1 u2 u3 : Value} (h : wa.cell? p0 = some u0 ∧ wa.cell? p1 = some u1 ∧ wa.cell? p2 = some u2 ∧ wa.cell? p3 = some u3 ∧ Below B w0 wa) (hb : Below wa.heap.size wa w') (hB : B ≤ wa.heap.size) (h0 : p0.block < B) (h1 : p1.block < B) (h2 : p2.block < B) (h3 : p3.block < B) :
    w'.cell? p0 = some u0 ∧ w'.cell? p1 = some u1 ∧ w'.cell? p2 = some u2 ∧ w'.cell? p3 = some u3 ∧ Below B w0 w' := by
  have hbel : Below B w0 w' := h.2.2.2.2.trans (hb.mono hB)
  have hst : Below B wa w' := hb.mono hB
  exact ⟨(hst.cell h0).trans h.1, (hst.cell h1).trans h.2.1, (hst.cell h2).trans h.2.2.1, (hst.cell h3).trans h.2.2.2.1, hbel⟩
theorem kB_alloc {B : Nat} {w0 wa : World} {p0 p1 p2 p3 : Addr} {u0 u1 u2 u3 : Value} (h : wa.cell? p0 = some u0 ∧ wa.cell? p1 = some u1 ∧ wa.cell? p2 = some u2 ∧ wa.cell? p3 = some u3 ∧ Below B w0 wa) (o : Obj) (hB : B ≤ wa.heap.size) (h0 : p0.block < B) (h1 : p1.block < B) (h2 : p2.block < B) (h3 : p3.block < B) :
    (wa.alloc o).cell? p0 = some u0 ∧ (wa.alloc o).cell? p1 = some u1 ∧ (wa.alloc o).cell? p2 = some u2 ∧ (wa.alloc o).cell? p3 = some u3 ∧ Below B w0 (wa.alloc o) := by
  have hbel : Below B w0 (wa.alloc o) := h.2.2.2.2.alloc hB o
  have hst : Below B wa (wa.alloc o) := (Below.refl _ _).alloc hB o
  exact ⟨(hst.cell h0).trans h.1, (hst.cell h1).trans h.2.1, (hst.cell h2).trans h.2.2.1, (hst.cell h3).trans h.2.2.2.1, hbel⟩
theorem kB_grow {B : Nat} {w0 wa w' : World} {p0 p1 p2 p3 : Addr} {u0 u1 u2 u3 : Value} (h : wa.cell? p0 = some u0 ∧ wa.cell? p1 = some u1 ∧ wa.cell? p2 = some u2 ∧ wa.cell? p3 = some u3 ∧ Below B w0 wa) {row : Option Nat} (hg : wa.grownBy w' row) (hB : B ≤ wa.heap.size) (hr : ∀ g, row = some g → B ≤ g) (h0 : p0.block < B) (h1 : p1.block < B) (h2 : p2.block < B) (h3 : p3.block < B) :
    w'.cell? p0 = some u0 ∧ w'.cell? p1 = some u1 ∧ w'.cell? p2 = some u2 ∧ w'.cell? p3 = some u3 ∧ Below B w0 w' := by
  have hbel : Below B w0 w' := h.2.2.2.2.grown hg hB hr
  have hst : Below B wa w' := (Below.refl _ _).grown hg hB hr
  exact ⟨(hst.cell h0).trans h.1, (hst.cell h1).trans h.2.1, (hst.cell h2).trans h.2.2.1, (hst.cell h3).trans h.2.2.2.1, hbel⟩

theorem info_pt : (Try.prog.info? 24).map (fun i => (i.zero, i.size, i.bytes)) = some (some (.agg #[.int .i64 0, .int .i64 0]), 2, 16) := by kernel_rfl
theorem und_pts : Try.prog.underlying 28 = some (.slice 24) := by kernel_rfl
/-- The cells of these points. -/
def flatP (l : List Pnt) : List Value := l.flatMap fun p => [.int .i64 p.1, .int .i64 p.2]
theorem flat_snoc (l : List Pnt) (p : Pnt) : flatP (l ++ [p]) = flatP l ++ [.int .i64 p.1, .int .i64 p.2] := by unfold flatP; simp

theorem r6shift_any (A : Option Addr) (cap : Nat) (l : List Pnt) (s t : Int) (w : World) (hr : Cor w w.heap.size A l) (hl : l.length ≤ 16) (hn : allNear l = true) (hs : -1073741824 ≤ s ∧ s ≤ 1073741824) (ht : -1073741824 ≤ t ∧ t ≤ 1073741824) :
    Calls Try.prog 21 #[.slice A l.length cap, P2 s t] w fun e w' => ∃ v, e = .returned v ∧ v ≠ .slice none 0 0 ∧ w'.ownsRow w.heap.size 24 2 v l.length (flatP (l.map (shP (s, t)))) ∧ Below w.heap.size w w' := by
  obtain ⟨i0, hi, hz0, hz1, hz2⟩ := info_parts info_pt
  have HI := Lib.hid hi
  have HR := Lib.hid hr
  have HN := Lib.hid hn
  have HST := Lib.hid (And.intro hs ht)
  clear hr hn hs ht
  obtain ⟨L, hL⟩ : ∃ L, l.length = L := ⟨_, rfl⟩
  rw [hL] at hl ⊢
  have HL := Lib.hid hL
  clear hL
  go_enter Try.func21, Try.ntmps21
  go_wp2
  go_loopw [5, 6] (fun v s6 wr => ∃ k : Nat, s6 = .int .i64 k ∧ k ≤ L ∧ v ≠ .slice none 0 0 ∧ wr.ownsRow (w.heap.size + 1) 24 2 v k (flatP ((l.take k).map (shP (s, t)))) ∧ wr.cell? ⟨w.heap.size, 0, none⟩ = some (.int .i64 s) ∧ wr.cell? ⟨w.heap.size, 1, none⟩ = some (.int .i64 t) ∧ w.heap.size + 1 ≤ wr.heap.size ∧ Below w.heap.size w wr) (fun _ s6 _ => L - (intOf s6).toNat)
  case atStart =>
    refine ⟨0, rfl, Nat.zero_le _, (fun h => by cases h), ?_, by simp [go_sem], by simp [go_sem], by simp, ?_⟩
    · have h0 := World.ownsRow_made (size := 2) (e := 24) (base := w.heap.size + 1) (w.alloc (.cells #[.int .i64 s, .int .i64 t] 24)) #[] 0 (by simp) (Nat.zero_le _) rfl
      rw [World.size_alloc] at h0
      exact h0
    · repeat (first | exact Below.refl _ _ | refine Below.alloc ?_ (by simp; try omega) _)
  case round =>
    obtain ⟨k, rfl, hk, hv, hown, b1, b2, hsz, hbW⟩ := hrel
    by_cases hlt : k < L
    · obtain ⟨⟨x, y⟩, hp⟩ : ∃ p, l[k]? = some p := ⟨_, List.getElem?_eq_getElem (by rw [HL.out]; exact hlt)⟩
      obtain ⟨ad, rfl, hB, c1, c2⟩ := (HR.out.step hbW).at_ hp
      dsimp only at c1 c2
      obtain ⟨⟨n1, n2⟩, n3, n4⟩ := near_at HN.out hp
      have NR := Lib.hid (And.intro (And.intro n1 n2) (And.intro n3 n4))
      have HF := Lib.hid (show flatP ((l.take (k + 1)).map (shP (s, t))) = flatP ((l.take k).map (shP (s, t))) ++ [.int .i64 (x + s), .int .i64 (y + t)] by rw [List.take_add_one, hp]; simp [flat_snoc, shP])
      have CA := fun w => Lib.hid (r4add_any x y s t w (by omega) (by omega) (by have := HST.out; omega) (by have := HST.out; omega))
      obtain ⟨pf, hpf⟩ : ∃ pf, flatP ((l.take k).map (shP (s, t))) = pf := ⟨_, rfl⟩
      rw [hpf] at hown HF
      clear hpf n1 n2 n3 n4
      have hrow := ownsRow_ge hown
      have q2 : decide ((k : Int) < (L : Int)) = true := by simp; omega
      have q3 : (0 : Int) ≤ (k : Int) := by omega
      have q4 : (k : Int) < (L : Int) := by omega
      have q5 : IntKind.i64.wrap ((k : Int) + 1) = (k : Int) + 1 := IntWalk.i64_in _ (by omega)
      have hBk : (ad.add (k * 2)).block < w.heap.size := by rw [block_add]; exact hB
      have HP := Lib.hid hp
      clear hp
      go_upto_region 5 with fail
      go_region_held3 (fun w' => w'.cell? (ad.add (k * 2)) = some (.int .i64 (x)) ∧ w'.cell? ⟨(ad.add (k * 2)).block, (ad.add (k * 2)).off + 1, none⟩ = some (.int .i64 (y)) ∧ w'.cell? ⟨w.heap.size, 0, none⟩ = some (.int .i64 (s)) ∧ w'.cell? ⟨w.heap.size, 1, none⟩ = some (.int .i64 (t)) ∧ Below (w.heap.size + 1) wr w') ((first | assumption | exact ⟨by simp [*], by simp [*], by simp [*], by simp [*], (Below.refl _ _).drew⟩ | exact kB_call ‹_› hb (by first | exact hsz | (simp; omega) | omega) (by (try dsimp only); omega) (by (try dsimp only); omega) (by (try dsimp only); omega) (by (try dsimp only); omega) | exact kB_grow ‹_› hgrow (by first | (simp; omega) | omega) (fun g e => by have := hrow g e; omega) (by (try dsimp only); omega) (by (try dsimp only); omega) (by (try dsimp only); omega) (by (try dsimp only); omega) | exact kB_alloc ‹_› _ (by first | exact hsz1 | (simp; omega) | omega) (by (try dsimp only); omega) (by (try dsimp only); omega) (by (try dsimp only); omega) (by (try dsimp only); omega) )) ((first | (go_at_call 34; with_reducible refine (CA _).out.mono ?_; rintro e w' ⟨rfl, hb⟩; have hown1 := ownsRow_after hown.drew hb; have hsz1 := Nat.le_trans hsz hb.size) | (refine step_append_lies _ (by rfl) _ _ _ (by rfl) (w.heap.size + 1) 24 i0 _ 2 16 und_pts hi hz0 hz1 hz2 rfl (by omega) u5 k _ (by rfl) (hown1.alloc _) ⟨w'.heap.size, 0, none⟩ 1 1 [.int .i64 (x + s), .int .i64 (y + t)] (by rfl) (by rfl) (World.news_of_block (cs := #[.int .i64 (x + s), .int .i64 (y + t)]) (t := 24) (fr := (0, 0)) (heap_alloc_new w' _)) (by simp [Value.oneCell']) (by omega) (by simp [maxLen]; omega) (by omega) (by simp; omega) _ rfl ?_; intro gg cap w1 hown2 hgrow hat hlt2)))
      all_goals
        obtain ⟨_, _, d1, d2, hF⟩ := ‹_ ∧ _ ∧ _ ∧ _ ∧ Below (w.heap.size + 1) wr _›
        go_wp2
        go_roundw
        case rel => exact ⟨k + 1, by go_num, by omega, (fun h => by cases h), by rw [HF.out]; exact hown2, d1, d2, Nat.le_trans hsz hF.size, hbW.trans (hF.mono (Nat.le_succ _))⟩
        case measure => simp [intOf]; omega
    · have hkL : k = L := by omega
      have q2 : decide ((k : Int) < (L : Int)) = false := by simp; omega
      have hown2 := Lib.hid (show wr.ownsRow (w.heap.size + 1) 24 2 u5 L (flatP (l.map (shP (s, t)))) by rw [hkL, show l.take L = l by rw [← HL.out, List.take_length]] at hown; exact hown)
      clear hown
      go_wp2
      refine bodyPost_ret (by simp [results, Try.results21, go_sem] <;> rfl) rfl ⟨u5, rfl, hv, ownsRow_mono hown2.out (Nat.le_succ _), ?_⟩
      repeat (first | exact hbW | refine Below.drew ?_ | refine below_dN ?_ _)
end Go.Proofs.Ytlgfnhapjhoelaa
