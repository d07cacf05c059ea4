/- What the document's own layer 6 answers: Put, onto a list of one piece. -/
import Derived.Test.YtlgfnhapjhoelaaRow6
namespace Go.Proofs.Ytlgfnhapjhoelaa
open Go.RowKit
set_option linter.unusedVariables false
set_option linter.unusedSimpArgs false
set_option maxHeartbeats 8000000
set_option maxRecDepth 100000

/-- What of these corners is put. -/
def putV (l : List Pnt) : Option (List Pnt) := if convexV l then some l else if convexV l.reverse then some l.reverse else none

theorem append_types {P : Program} {w : World} {t t2 ty e : TypeId} (ht : P.underlying t = some (.slice e)) (ht2 : P.underlying t2 = some (.slice e)) (a : Option Addr) (n c : Nat) (b : Value) : (Builtin.append_ #[t, t2] ty #[.slice a n c, b]).run P w = (Builtin.append_ #[t, t] ty #[.slice a n c, b]).run P w := by
  unfold Builtin.append_
  simp only [List.getElem?_toArray, List.getElem?_cons_zero, List.getElem?_cons_succ, Sem.run_bind, run_underlying ht, run_underlying ht2, Result.andThen_ok]
theorem wpList_append_two {P : Program} (w : World) {ops : Array Oper} {rest : List Oper} {o : Oper} {a : Act} {Q : Exit → Act → World → Prop} (hgd : o.guard = none) (s x : Operand) (t t2 : TypeId)
    (ho : o.op = .call { callee := .builtin .append, args := #[s, x], argTypes := #[t, t2] })
    (base : Nat) (e : TypeId) (i : TypeInfo) (z : Value) (size bytes : Nat) (ht : P.underlying t = some (.slice e)) (ht2 : P.underlying t2 = some (.slice e)) (hi : P.info? e = some i) (hz : i.zero = some z)
    (hsize : i.size = size) (hby : i.bytes = bytes) (hzs : z.cells.size = size) (hsz : 0 < size)
    (v : Value) (n : Nat) (xs : List Value) (hs : a.eval s = v) (hown : w.ownsRow base e size v n xs)
    (ad : Addr) (m c : Nat) (news : List Value) (hx : a.eval x = .slice (some ad) m c) (hl : news.length = m * size) (hnews : ∀ j u, news[j]? = some u → w.cell? (ad.add j) = some u) (h1 : ∀ u ∈ news, u.oneCell' = true)
    (hm : 0 < m) (h63 : n + m ≤ maxLen) (hbytes : (n + m) * bytes ≤ 140737488355328) (hbase : base ≤ w.heap.size)
    (h : ∀ g cap w', w'.ownsRow base e size (.slice (some ⟨g, 0, none⟩) (n + m) cap) (n + m) (xs ++ news) → w.grownBy w' v.ownBlock → g < w'.heap.size → wpList P ops Q rest (a.put o.dst (.slice (some ⟨g, 0, none⟩) (n + m) cap)) w') : wpList P ops Q (o :: rest) a w :=
  wpList_plain hgd fun K hK => by
    obtain ⟨g, cap, w', hr, h2, h3, h4, h5⟩ := run_append_lies (P := P) w t o.type base e i z size bytes ht hi hz hsize hby hzs hsz v n xs hown ad m c news hl hnews h1 hm h63 hbytes hbase _ rfl
    obtain ⟨va, vn, vc, hv⟩ : ∃ va vn vc, v = .slice va vn vc := by
      obtain ⟨_, ⟨hv, _⟩ | ⟨g', cap', cur, hv, _⟩⟩ := hown <;> exact ⟨_, _, _, hv⟩
    subst hv
    have hr2 := (append_types (w := w) (ty := o.type) ht ht2 va vn vc (.slice (some ad) m c)).trans hr
    unfold Oper.wp execOp
    simp only [ho, resolve, invoke, builtin, Sem.run_bind, Sem.run_pure, Result.andThen_ok, List.map_toArray, List.map_cons, List.map_nil, hs, hx, hr2]
    exact hK _ _ (h g cap w' h2 h3 h5)
theorem flat_cells {w : World} {B : Nat} {ad : Addr} {l : List Pnt} (h : Cor w B (some ad) l) : ∀ (j : Nat) (u : Value), (flatP l)[j]? = some u → w.cell? (ad.add j) = some u := fun j u hu => by
  have hj := (List.getElem?_eq_some_iff.1 hu).1
  rw [flatP_length] at hj
  obtain ⟨p, hp⟩ : ∃ p, l[j / 2]? = some p := ⟨_, List.getElem?_eq_getElem (by omega)⟩
  obtain ⟨ad2, e2, _, c1, c2⟩ := h.at_ hp
  obtain rfl := Option.some.inj e2
  obtain ⟨f1, f2⟩ := flatP_get l _ _ hp
  rcases Nat.mod_two_eq_zero_or_one j with h0 | h0
  · have ej : j / 2 * 2 = j := by omega
    rw [ej] at f1 c1
    rw [f1] at hu; cases hu; exact c1
  · have ej : j / 2 * 2 + 1 = j := by omega
    have := snd2_add ad (j / 2)
    rw [ej] at f2 this
    rw [f2] at hu; cases hu; rw [this]; exact c2
theorem flat_one (l : List Pnt) : ∀ u ∈ flatP l, u.oneCell' = true := by
  intro u hu
  unfold flatP at hu
  obtain ⟨p, _, hp⟩ := List.mem_flatMap.1 hu
  simp at hp
  rcases hp with rfl | rfl <;> rfl
theorem ownsRow_far {w w' : World} {B : Nat} {e : TypeId} {k : Nat} {g n c : Nat} {xs : List Value} (h : w.ownsRow B e k (.slice (some ⟨g, 0, none⟩) n c) n xs) (hb : w'.heap[g]? = w.heap[g]?) : w'.ownsRow B e k (.slice (some ⟨g, 0, none⟩) n c) n xs := by
  obtain ⟨hl, ⟨hv, _⟩ | ⟨g', cap, cur, hv, hB, hh, r⟩⟩ := h
  · cases hv
  · cases hv
    exact ⟨hl, .inr ⟨g, c, cur, rfl, hB, hb.trans hh, r⟩⟩
theorem und_pt : Try.prog.underlying 22 = some (.slice 24) := by kernel_rfl
/-- What lies behind the first piece, in the row at block g. -/
def PutP (w : World) (g m : Nat) : Option (List Pnt) → Prop
  | none => m = 1
  | some l => m = 2 ∧ ∃ A c, w.cell? ⟨g, 1, none⟩ = some (.slice A l.length c) ∧ Cor w w.heap.size A l
theorem row_cell {w : World} {B : Nat} {e : TypeId} {k : Nat} {g n cap : Nat} {xs : List Value} (h : w.ownsRow B e k (.slice (some ⟨g, 0, none⟩) n cap) n xs) : g < w.heap.size ∧ ∀ j u, xs[j]? = some u → w.cell? ⟨g, j, none⟩ = some u := by
  obtain ⟨hl, ⟨hv, hn⟩ | ⟨g', cap', cur, hv, hB, hh, hcap, hmax, hsz, htk⟩⟩ := h
  · cases hv
  · cases hv
    refine ⟨?_, fun j u hu => ?_⟩
    · rcases Nat.lt_or_ge g w.heap.size with h1 | h1
      · exact h1
      · rw [Array.getElem?_eq_none h1] at hh; cases hh
    · rw [cell_of_row w g j cur e (0, 0) hh]
      rw [← htk, List.getElem?_take] at hu
      by_cases hj : j < n * k
      · rw [if_pos hj] at hu; simpa using hu
      · rw [if_neg hj] at hu; cases hu
theorem info_pc : (Try.prog.info? 28).map (fun i => (i.zero, i.size, i.bytes)) = some (some (.slice none 0 0), 1, 24) := by kernel_rfl
theorem und_pcs : Try.prog.underlying 42 = some (.slice 28) := by kernel_rfl

theorem r6put_any (la : Addr) (lc : Nat) (Ay : Option Addr) (ny cy : Nat) (A : Option Addr) (cap : Nat) (l : List Pnt) (w : World) (hla : la.block < w.heap.size) (hy : w.cell? la = some (.slice Ay ny cy)) (hr : Cor w w.heap.size A l) (hl : l.length ≤ 16) (hn : allNear l = true) :
    Calls Try.prog 25 #[.slice (some la) 1 lc, .slice A l.length cap] w fun e w' => ∃ g m c, e = .returned (.slice (some ⟨g, 0, none⟩) m c) ∧ g < w'.heap.size ∧ w'.cell? ⟨g, 0, none⟩ = some (.slice Ay ny cy) ∧ PutP w' g m (putV l) ∧ Below w.heap.size w w' := by
  obtain ⟨i0, hi, hz0, hz1, hz2⟩ := info_parts info_pt
  obtain ⟨i1, ki, kz0, kz1, kz2⟩ := info_parts info_pc
  have HR := Lib.hid hr
  have HN := Lib.hid hn
  clear hr hn
  obtain ⟨L, hL⟩ : ∃ L, l.length = L := ⟨_, rfl⟩
  rw [hL] at hl ⊢
  have HL := Lib.hid hL
  clear hL
  go_enter Try.func25, Try.ntmps25
  have q0 : IntKind.i64.wrap ((L : Int) - 1) = (L : Int) - 1 := IntWalk.i64_in _ (by omega)
  go_wp2
  go_loopw [5, 6] (fun v s6 wr => ∃ (k : Nat) (z : Int), s6 = .int .i64 z ∧ z + 1 + k = L ∧ wr.ownsRow w.heap.size 24 2 v k (flatP (l.reverse.take k)) ∧ Below w.heap.size w wr ∧ -1 ≤ z) (fun _ s6 _ => (intOf s6 + 1).toNat)
  case atStart =>
    refine ⟨0, (L : Int) - 1, rfl, by omega, ?_, ?_, by omega⟩
    · have h0 := World.ownsRow_made (size := 2) (e := 24) (base := w.heap.size) w #[] 0 (by simp) (Nat.zero_le _) rfl
      exact h0
    · repeat (first | exact Below.refl _ _ | refine Below.alloc ?_ (by simp; try omega) _)
  case round =>
    obtain ⟨k, z, rfl, hz, hown, hbW, hz1'⟩ := hrel
    by_cases hlt : 0 ≤ z
    · obtain ⟨j, rfl⟩ : ∃ j : Nat, z = (j : Int) := ⟨z.toNat, by omega⟩
      obtain ⟨⟨x, y⟩, hp⟩ : ∃ p, l[j]? = some p := ⟨_, List.getElem?_eq_getElem (by rw [HL.out]; omega)⟩
      obtain ⟨ad, rfl, hB, c1, c2⟩ := (HR.out.step hbW).at_ hp
      dsimp only at c1 c2
      have HF := Lib.hid (show flatP (l.reverse.take (k + 1)) = flatP (l.reverse.take k) ++ [.int .i64 x, .int .i64 y] by rw [List.take_add_one, List.getElem?_reverse (by rw [HL.out]; omega), HL.out, show L - 1 - k = j by omega, hp]; exact flat_snoc _ (x, y))
      obtain ⟨pf, hpf⟩ : ∃ pf, flatP (l.reverse.take k) = pf := ⟨_, rfl⟩
      rw [hpf] at hown HF
      clear hpf hp
      have hsz := hbW.size
      have q2 : decide ((0 : Int) ≤ (j : Int)) = true := by simp
      have q4 : (j : Int) < (L : Int) := by omega
      have q5 : IntKind.i64.wrap ((j : Int) - 1) = (j : Int) - 1 := IntWalk.i64_in _ (by omega)
      have hBk : (ad.add (j * 2)).block < w.heap.size := by rw [block_add]; exact hB
      go_upto_region 5 with fail
      iterate 10 go_step
      iterate 9 (first | go_step | go_simp)
      refine wpList_append_lies _ rfl _ _ _ rfl w.heap.size 24 i0 _ 2 16 und_pts hi hz0 hz1 hz2 rfl (by omega) u5 k _ (by rfl) (hown.alloc _) ⟨wr.heap.size, 0, none⟩ 1 1 [.int .i64 x, .int .i64 y] (by rfl) (by rfl) (World.news_of_block (cs := #[.int .i64 x, .int .i64 y]) (t := 24) (fr := (0, 0)) (heap_alloc_new wr _)) (by simp [Value.oneCell']) (by omega) (by simp [maxLen]; omega) (by omega) (by simp; omega) _ rfl ?_
      intro gg cap w1 hown2 hgrow hat hlt2
      have hge := ownsRow_ge hown
      clear hown
      go_wp2
      all_goals
        go_roundw
        case rel => exact ⟨k + 1, (j : Int) - 1, by go_num, by omega, by rw [HF.out]; exact hown2, (hbW.alloc (by omega) _).grown hgrow (by simp; omega) hge, by omega⟩
        case measure => (simp [intOf]; try omega)
    · have hkL : k = L := by omega
      have q2 : decide ((0 : Int) ≤ z) = false := by simpa using hlt
      have hown2 := Lib.hid (show wr.ownsRow w.heap.size 24 2 u5 L (flatP l.reverse) by rw [hkL, show l.reverse.take L = l.reverse by rw [← HL.out, ← List.length_reverse, List.take_length]] at hown; exact hown)
      clear hown
      obtain ⟨A2, cap2, rfl, hl2, hc2, -⟩ := cor_of_row hown2.out
      go_upto_region 6 with fail
      have hsz := hbW.size
      have h0 := World.ownsRow_made (size := 1) (e := 28) (base := wr.heap.size) wr #[] 0 (Nat.le_refl _) (Nat.zero_le _) rfl
      have hny : ∀ (o : Obj) (j : Nat) (u : Value), [Value.slice Ay ny cy][j]? = some u → (wr.alloc o).cell? (la.add j) = some u := fun o j u hu => by
        have hj : j = 0 := by
          have := (List.getElem?_eq_some_iff.1 hu).1
          simpa using this
        subst hj
        have hu2 : Value.slice Ay ny cy = u := by simpa using hu
        subst hu2
        rw [show la.add 0 = la from rfl, World.cell?_alloc_old _ _ _ (by omega)]
        exact (hbW.cell hla).trans hy
      iterate 7 (first | go_step | go_simp)
      refine wpList_append_lies _ rfl _ _ _ rfl wr.heap.size 28 i1 _ 1 24 und_pcs ki kz0 kz1 kz2 rfl (by omega) _ 0 _ (by rfl) h0 la 1 lc [.slice Ay ny cy] (by rfl) (by rfl) (hny _) (by simp [Value.oneCell']) (by omega) (by simp [maxLen]) (by omega) (by simp) _ rfl ?_
      intro g7 cap7 w7 hown7 hgrow7 hat7 hlt7
      have hb7 : Below wr.heap.size wr w7 := ((Below.refl _ _).alloc (Nat.le_refl _) _).grown hgrow7 (by simp) (fun g e => by cases e; exact Nat.le_refl _)
      have hbW7 := hbW.trans (hb7.mono hsz)
      have hc7 := Lib.hid (hc2.step hb7)
      have hs78 := hb7.size
      clear hgrow7 hny h0 hb7
      have hs7 := hbW7.size
      have CV1 : Calls Try.prog 16 #[.slice A L cap] w7 fun e w' => e = .returned (.bool (convexV l)) ∧ Below w7.heap.size w7 w' := by
        have := r6convex_any A cap l w7 ((HR.out.step hbW7).more hbW7.size) (by rw [HL.out]; omega) HN.out
        rwa [HL.out] at this
      go_wp2_with fail
      cases hcv : convexV l with
      | true =>
        rw [hcv] at CV1
        refine CV1.mono ?_
        rintro e w8 ⟨rfl, hb8⟩
        clear CV1
        have hpos : 3 ≤ L := by
          unfold convexV at hcv
          simp only [Bool.and_eq_true, decide_eq_true_eq] at hcv
          rw [← HL.out]; exact hcv.1.1
        have F := Lib.hid (show putV l = some l by unfold putV; rw [hcv]; rfl)
        have hbW8 := hbW7.trans (hb8.mono hs7)
        have hs8 := hbW8.size
        obtain ⟨ad, rfl⟩ : ∃ ad, A = some ad := by
          obtain ⟨ad, e, _⟩ := HR.out (by rw [HL.out]; omega)
          exact ⟨ad, e⟩
        have hown8 := ownsRow_after hown7 hb8
        have hge := ownsRow_ge hown8
        have hBB := Nat.le_trans hs78 hb8.size
        have hg7 : g7 < w8.heap.size := Nat.lt_of_lt_of_le hlt7 hb8.size
        have hc8 := HR.out.step hbW8
        have hfc := fun (o : Obj) => flat_cells (hc8.step ((Below.refl _ _).alloc hs8 o))
        have h0 := World.ownsRow_made (size := 2) (e := 24) (base := w8.heap.size) w8 #[] 0 (Nat.le_refl _) (Nat.zero_le _) rfl
        have hfl : (flatP l).length = L * 2 := by rw [flatP_length, HL.out]
        clear hown7 hb8 hcv hc8
        go_upto_region 8 with fail
        iterate 10 (first | go_step | go_simp)
        refine wpList_append_two _ rfl _ _ _ _ rfl w8.heap.size 24 i0 _ 2 16 und_pts und_pt hi hz0 hz1 hz2 rfl (by omega) _ 0 _ (by rfl) h0 ad L cap (flatP l) (by rfl) hfl (hfc _) (flat_one l) (by omega) (by simp [maxLen]; omega) (by omega) (by simp) ?_
        simp only [Nat.zero_add, List.nil_append]
        intro g4 cap4 w4 hown4 hgrow4 hlt4
        have hb4 : Below w8.heap.size w8 w4 := ((Below.refl _ _).alloc (Nat.le_refl _) _).grown hgrow4 (by simp) (fun g e => by cases e; exact Nat.le_refl _)
        have hg4 : w8.heap.size ≤ g4 := ownsRow_ge hown4 g4 rfl
        have hown48 := ownsRow_after hown8 hb4
        have hs4 := hb4.size
        have hbW4 := hbW8.trans (hb4.mono hs8)
        clear hfc h0 hgrow4 hown8 hb4
        iterate 3 (first | go_step | go_simp)
        refine wpList_append_lies _ rfl _ _ _ rfl wr.heap.size 28 i1 _ 1 24 und_pcs ki kz0 kz1 kz2 rfl (by omega) _ 1 _ (by rfl) (hown48.alloc _) ⟨w4.heap.size, 0, none⟩ 1 1 [.slice (some ⟨g4, 0, none⟩) L cap4] (by rfl) (by rfl) (World.news_of_block (cs := #[.slice (some ⟨g4, 0, none⟩) L cap4]) (t := 28) (fr := (0, 0)) (heap_alloc_new w4 _)) (by simp [Value.oneCell']) (by omega) (by simp [maxLen]) (by omega) (by simp; omega) _ rfl ?_
        intro g3 cap3 w3 hown3 hgrow3 hat3 hlt3
        have hb3 : Below wr.heap.size w4 w3 := ((Below.refl _ _).alloc (Nat.le_trans hBB hs4) _).grown hgrow3 (by simp; omega) hge
        obtain ⟨r1, r2⟩ := row_cell hown3
        have hown5 := ownsRow_far hown4 ((hgrow3.block g4 (by simp; omega) (fun h => by have := Option.some.inj h; simp at this; omega)).trans (heap_alloc_old w4 _ hlt4))
        go_wp2
        refine bodyPost_ret (by simp [results, Try.results25, go_sem] <;> rfl) rfl ⟨g3, 2, cap3, rfl, r1, r2 0 _ rfl, ?_, hbW4.trans (hb3.mono hsz)⟩
        rw [F.out]
        obtain ⟨A5, c5, hv5, -, hc5, -⟩ := cor_of_row hown5
        refine ⟨rfl, A5, c5, ?_, hc5⟩
        rw [← hv5]; exact r2 1 _ rfl
      | false =>
        rw [hcv] at CV1
        refine CV1.mono ?_
        rintro e w8 ⟨rfl, hb8⟩
        clear CV1
        have hown8 := ownsRow_after hown7 hb8
        have hc8w := Lib.hid (hc7.out.step (hb8.mono hs78))
        have hc8 := Lib.hid (hc8w.out.more (Nat.le_trans hs78 hb8.size))
        have CV2 : Calls Try.prog 16 #[.slice A2 L cap2] w8 fun e w' => e = .returned (.bool (convexV l.reverse)) ∧ Below w8.heap.size w8 w' := by
          have := r6convex_any A2 cap2 l.reverse w8 hc8.out (by rw [hl2]; omega) (by have := HN.out; unfold allNear at this ⊢; rw [List.all_reverse]; exact this)
          rwa [hl2] at this
        have hbW8 := hbW7.trans (hb8.mono hs7)
        have hs8 := hbW8.size
        have hs88 := hb8.size
        have HCV := Lib.hid hcv
        clear hown7 hb8 hcv
        go_wp2_with fail
        cases hcr : convexV l.reverse with
        | false =>
          rw [hcr] at CV2
          refine CV2.mono ?_
          rintro e w9 ⟨rfl, hb9⟩
          clear CV2
          have hown9 := ownsRow_after hown8 hb9
          obtain ⟨r1, r2⟩ := row_cell hown9
          have F := Lib.hid (show putV l = none by unfold putV; rw [HCV.out, hcr]; rfl)
          clear hcr hown8
          go_wp2
          refine bodyPost_ret (by simp [results, Try.results25, go_sem] <;> rfl) rfl ⟨g7, 1, cap7, rfl, r1, r2 0 _ rfl, ?_, hbW8.trans (hb9.mono hs8)⟩
          rw [F.out]
          rfl
        | true =>
          rw [hcr] at CV2
          refine CV2.mono ?_
          rintro e w9 ⟨rfl, hb9⟩
          clear CV2
          have hown9 := ownsRow_after hown8 hb9
          have F := Lib.hid (show putV l = some l.reverse by unfold putV; rw [HCV.out, hcr]; rfl)
          have hc9 := Lib.hid (hc8w.out.step (hb9.mono (Nat.le_trans hs78 hs88)))
          have hbW9 := hbW8.trans (hb9.mono hs8)
          have hs9 := hbW9.size
          have hs89 := hb9.size
          have hBB := Nat.le_trans hs78 (Nat.le_trans hs88 hs89)
          have hge := ownsRow_ge hown9
          have hrl := row_cell hown9
          clear hcr hown8 hb9
          go_upto_region 10 with fail
          iterate 10 (first | go_step | go_simp)
          refine wpList_append_lies _ rfl _ _ _ rfl wr.heap.size 28 i1 _ 1 24 und_pcs ki kz0 kz1 kz2 rfl (by omega) _ 1 _ (by rfl) (hown9.alloc _) ⟨w9.heap.size, 0, none⟩ 1 1 [.slice A2 L cap2] (by rfl) (by rfl) (World.news_of_block (cs := #[.slice A2 L cap2]) (t := 28) (fr := (0, 0)) (heap_alloc_new w9 _)) (by simp [Value.oneCell']) (by omega) (by simp [maxLen]) (by omega) (by simp; omega) _ rfl ?_
          intro g3 cap3 w3 hown3 hgrow3 hat3 hlt3
          have hb3 : Below wr.heap.size w9 w3 := ((Below.refl _ _).alloc hBB _).grown hgrow3 (by simp; omega) hge
          obtain ⟨r1, r2⟩ := row_cell hown3
          go_wp2
          refine bodyPost_ret (by simp [results, Try.results25, go_sem] <;> rfl) rfl ⟨g3, 2, cap3, rfl, r1, r2 0 _ rfl, ?_, hbW9.trans (hb3.mono hsz)⟩
          rw [F.out]
          refine ⟨rfl, A2, cap2, ?_, ?_⟩
          · rw [hl2]; exact r2 1 _ rfl
          · exact (hc9.out.step hb3).more (Nat.le_trans hBB hb3.size)
end Go.Proofs.Ytlgfnhapjhoelaa
