/- The machine closes a subpath, and takes one verb. -/
import Derived.Test.YtalgmnnimfenpaaDoorPthM
namespace Go.Proofs.YtalgmnnimfenpaaDoor.Q7
open Go.RowKit
set_option linter.unusedVariables false
set_option linter.unusedSimpArgs false
set_option maxHeartbeats 8000000
set_option maxRecDepth 100000

/-! ## Cuts of slices -/
theorem cut_is (A : Option Addr) (n c : Nat) (h1 : 1 ≤ n) (h2 : n ≤ c) : ∃ A' : Option Addr, (∀ W, (Instr.sliceAt 22 (.slice A n c) (some (.int .i64 1)) none none).run Tryd.prog W = .ok (.slice A' (n - 1) (c - 1)) W) ∧ (∀ W, (Instr.slice 22 (.slice A n c) (some (.int .i64 1)) none none).run Tryd.prog W = .ok (.slice A' (n - 1) (c - 1)) W) ∧ (1 < n → A' = A.map (·.add 1)) := by
  have hs : ∀ W, (Instr.slice 22 (.slice A n c) (some (.int .i64 1)) none none).run Tryd.prog W = .ok (.slice (if c = 1 then A else A.map (·.add (1 * 1))) (n - 1) (c - 1)) W := fun W => by
    rw [run_slice_l W 22 A n c (by kernel_rfl) .i64 1 (by omega) (by omega)]
    have : (Go.sizeOf (Tryd.prog.elem 22)).run Tryd.prog W = .ok 1 W := by kernel_rfl
    rw [this]; rfl
  refine ⟨if c = 1 then A else A.map (·.add (1 * 1)), fun W => ?_, hs, fun h => ?_⟩
  · rw [run_sliceAt_slice W 22 _ _ _ _ (by kernel_rfl)]; exact hs W
  · rw [if_neg (by omega)]
theorem vals_tail {x : World} {B : Nat} {A A' : Option Addr} {v : Value} {vs : List Value} (h : Vals x B A (v :: vs)) (hA : 1 < (v :: vs).length → A' = A.map (·.add 1)) : Vals x B A' vs := fun hn => by
  obtain ⟨ad, rfl, hB, hc⟩ := h (by simp)
  have e := hA (by simp only [List.length_cons]; omega)
  refine ⟨ad.add 1, e, by rw [block_add]; exact hB, fun i u hu => ?_⟩
  rw [add_add, Nat.add_comm]
  exact hc (i + 1) u (by simpa using hu)
theorem cut_ps (A : Option Addr) (n c k : Nat) (ki : Int) (hki : (k : Int) = ki) (h1 : k ≤ n) (h2 : n ≤ c) : ∃ A' : Option Addr, (∀ W, (Instr.sliceAt 23 (.slice A n c) (some (.int .i64 ki)) none none).run Tryd.prog W = .ok (.slice A' (n - k) (c - k)) W) ∧ (∀ W, (Instr.slice 23 (.slice A n c) (some (.int .i64 ki)) none none).run Tryd.prog W = .ok (.slice A' (n - k) (c - k)) W) ∧ (k < n → A' = A.map (·.add (k * 2))) := by
  subst hki
  have hs : ∀ W, (Instr.slice 23 (.slice A n c) (some (.int .i64 k)) none none).run Tryd.prog W = .ok (.slice (if c = k then A else A.map (·.add (k * 2))) (n - k) (c - k)) W := fun W => by
    rw [run_slice_l W 23 A n c (by kernel_rfl) .i64 k (by omega) (by omega)]
    have : (Go.sizeOf (Tryd.prog.elem 23)).run Tryd.prog W = .ok 2 W := by kernel_rfl
    rw [this]; rfl
  refine ⟨if c = k then A else A.map (·.add (k * 2)), fun W => ?_, hs, fun h => ?_⟩
  · rw [run_sliceAt_slice W 23 _ _ _ _ (by kernel_rfl)]; exact hs W
  · rw [if_neg (by omega)]
theorem cor_tail {x : World} {B k : Nat} {A A' : Option Addr} {l : List Pnt} (h : Cor x B A l) (hA : k < l.length → A' = A.map (·.add (k * 2))) : Cor x B A' (l.drop k) := fun hn => by
  rw [List.length_drop] at hn
  obtain ⟨ad, rfl, hB, hc⟩ := h (by omega)
  have e := hA (by omega)
  refine ⟨ad.add (k * 2), e, by rw [block_add]; exact hB, fun i p hp => ?_⟩
  have := hc (k + i) p (by rw [List.getElem?_drop] at hp; exact hp)
  rw [add_add, show k * 2 + i * 2 = (k + i) * 2 by omega]
  exact this
theorem head_ps (A : Option Addr) (n c k : Nat) (ki : Int) (hki : (k : Int) = ki) (h1 : k ≤ n) (h2 : n ≤ c) : ∃ A' : Option Addr, (∀ W, (Instr.sliceAt 23 (.slice A n c) none (some (.int .i64 ki)) none).run Tryd.prog W = .ok (.slice A' k c) W) ∧ (∀ W, (Instr.slice 23 (.slice A n c) none (some (.int .i64 ki)) none).run Tryd.prog W = .ok (.slice A' k c) W) ∧ A' = A := by
  subst hki
  have hs : ∀ W, (Instr.slice 23 (.slice A n c) none (some (.int .i64 k)) none).run Tryd.prog W = .ok (.slice (if c = 0 then A else A.map (·.add (0 * 2))) k c) W := fun W => by
    rw [run_slice_h W 23 A n c (by kernel_rfl) .i64 k (by omega) (by omega)]
    have : (Go.sizeOf (Tryd.prog.elem 23)).run Tryd.prog W = .ok 2 W := by kernel_rfl
    rw [this]; rfl
  refine ⟨if c = 0 then A else A.map (·.add (0 * 2)), fun W => ?_, hs, ?_⟩
  · rw [run_sliceAt_slice W 23 _ _ _ _ (by kernel_rfl)]; exact hs W
  · split
    · rfl
    · cases A <;> rfl
theorem cor_head {x : World} {B k : Nat} {A : Option Addr} {l : List Pnt} (h : Cor x B A l) : Cor x B A (l.take k) := fun hn => by
  rw [List.length_take] at hn
  obtain ⟨ad, rfl, hB, hc⟩ := h (by omega)
  exact ⟨ad, rfl, hB, fun i p hp => hc i p (by rw [List.getElem?_take] at hp; split at hp; exact hp; cases hp)⟩

theorem close_any {G gv cap : Nat} {va vp : Value} {p q : Pnt} {w x : World} {o : List SubV} {sg : List SegV} {cs : List Value} {sv : Value}
    (h : MS G va vp (.slice (some ⟨gv, 0, none⟩) (o.length + 1) cap) p w x) (hs : SpS (G + 1) o q sg false x (.slice (some ⟨gv, 0, none⟩) (o.length + 1) cap) cs sv) (hl : o.length ≤ 100000) (hl2 : sg.length ≤ 100000) :
    Calls Tryd.prog 43 #[.pointer (some ⟨G, 0, none⟩)] x fun e y => e = .returned (.tuple #[]) ∧ ∃ p' sv', MS G va vp (.slice (some ⟨gv, 0, none⟩) (o.length + 1) cap) p' w y ∧
      SpS (G + 1) o q (if p = q then sg else sg ++ [((p, q, zP, zP), 2)]) true y (.slice (some ⟨gv, 0, none⟩) (o.length + 1) cap) cs sv' := by
  have SU0 := sub_any h hl
  obtain ⟨m, hm⟩ : ∃ m, o.length = m := ⟨_, rfl⟩
  rw [hm] at SU0
  have SU := Lib.hid SU0
  have HH := Lib.hid h
  have HS := Lib.hid hs
  have HM := Lib.hid hm
  clear SU0 h hs hm
  obtain ⟨px, py⟩ := p
  obtain ⟨qx, qy⟩ := q
  go_enter Tryd.func43, Tryd.ntmps43
  go_wp2_with fail
  refine (SU.out).mono ?_
  rintro e x1 ⟨rfl, h1⟩
  have hM1 := HH.out.after h1
  have hS1 := HS.out.step h1
  obtain ⟨k1, k2, k3, k4, kf, kB, klt⟩ := hS1.cells
  have f3 := kf (o.length * 4 + 3)
  have hS2 := hS1.shut
  have hM2 := hM1.step (show Below (G + 1) x1 (x1.setCell ⟨gv, o.length * 4 + 3, none⟩ (.bool true)) from (Below.refl _ _).setCell (p := ⟨gv, o.length * 4 + 3, none⟩) kB _)
  rw [HM.out] at k4 f3 hM2 hS2
  clear hM1 hS1 h1 k1 k2 k3 kf
  go_upto_region 2 with fail
  refine any_gen (fun z => MS G va vp (.slice (some ⟨gv, 0, none⟩) (m + 1) cap) (px, py) w z ∧ SpS (G + 1) o (qx, qy) sg true z (.slice (some ⟨gv, 0, none⟩) (m + 1) cap) cs sv) ⟨hM2, hS2⟩ ?_
  clear hM2 hS2 k4 f3
  rintro x2 ⟨hM, hS⟩
  rw [← HM.out] at hM hS
  obtain ⟨k1, k2, k3, k4, kf, -, -⟩ := hS.cells
  have e3 := hM.c3; have e4 := hM.c4
  rw [HM.out] at k1 k2
  dsimp only at k1 k2 e3 e4
  have HM2 := Lib.hid hM
  have HS2 := Lib.hid hS
  obtain ⟨bb, hbb⟩ : ∃ bb, decide (((px, py) : Pnt) = (qx, qy)) = bb := ⟨_, rfl⟩
  have NE := fun w => ne_pt7 px py qx qy bb hbb w
  have HBB := Lib.hid hbb
  clear hM hS k3 k4 kf hbb
  go_wp2_with fail
  go_quiet (fail)
  cases bb
  · have HNE := Lib.hid (show ¬ (((px, py) : Pnt) = (qx, qy)) from of_decide_eq_false HBB.out)
    have bal : ∀ n, Below x2.heap.size x2 ((x2.drewN n).alloc (.cells #[.int .i64 qx, .int .i64 qy] 44)) := fun n => (below_dN (Below.refl _ _) n).alloc (Nat.le_refl _) _
    have DR := Lib.hid (fun n => draw_any (G := G) (gv := gv) (cap := cap) (va := va) (vp := vp) (p := (px, py)) (q := (qx, qy)) (w := w) (o := o) (sg := sg) (b := true) (cs := cs) (sv := sv) ⟨(x2.drewN n).heap.size, 0, none⟩ 1 [(qx, qy)] (HM2.out.after (bal n)) (HS2.out.step (bal n)) (cor_one (x2.drewN n) qx qy _) (.inl rfl) hl hl2)
    go_wp2_with fail
    refine (DR.out _).mono ?_
    rintro e x5 ⟨rfl, sv', hM5, hS5⟩
    have HM5 := Lib.hid hM5
    have HS5 := Lib.hid hS5
    clear hM5 hS5 DR HM2 HS2
    go_wp2
    go_end0
    exact ⟨rfl, ⟨_, _, HM5.out⟩, sv', HS5.out⟩
  · have HNE := Lib.hid (show (((px, py) : Pnt) = (qx, qy)) from of_decide_eq_true HBB.out)
    go_wp2
    go_end0
    exact ⟨rfl, ⟨px, py, HM2.out.after (below_dN (Below.refl _ _) _)⟩, sv, HS2.out.step (below_dN (Below.refl _ _) _)⟩
/-- How far the splitting has come, by the verb that was last. -/
def StS (G : Nat) (out : List SubV) (prev : Int) (x : World) (vo : Value) : Prop :=
  (prev = 5 ∧ ∃ cs, OutC (G + 1) out x vo cs) ∨ (∃ o q sg cs sv, out = o ++ [(q, sg, false)] ∧ SpS (G + 1) o q sg false x vo cs sv)
theorem StS.outC {G : Nat} {out : List SubV} {prev : Int} {x : World} {vo : Value} (h : StS G out prev x vo) : ∃ cs, OutC (G + 1) out x vo cs := by
  rcases h with ⟨_, h⟩ | ⟨o, q, sg, cs, sv, rfl, h1⟩
  · exact h
  · exact ⟨_, h1.out⟩
theorem StS.open_ {G : Nat} {out : List SubV} {prev : Int} {x : World} {vo : Value} (h : StS G out prev x vo) (hp : prev ≠ 5) : ∃ o q sg cs sv, out = o ++ [(q, sg, false)] ∧ SpS (G + 1) o q sg false x vo cs sv := by
  rcases h with ⟨h, _⟩ | h
  · exact absurd h hp
  · exact h
/-- The segments of a subpath that is closed. -/
def shutG (p q : Pnt) (sg : List SegV) : List SegV := if p = q then sg else sg ++ [((p, q, zP, zP), 2)]
/-- What one step leaves. -/
def StepQ (G n c m d K : Nat) (t : List Int) (ps' : List Pnt) (out' : List SubV) (v : Int) (p' : Pnt) (w y : World) : Prop :=
  ∃ A' B' vo' p1, MS G (.slice A' (n - 1) (c - 1)) (.slice B' (m - K) (d - K)) vo' p1 w y ∧ Vals w G A' (t.map iV) ∧ Cor w G B' ps' ∧ StS G out' v y vo' ∧ (v = 5 ∨ p1 = p')
theorem vals_at0 {w x : World} {G : Nat} {A : Option Addr} {v : Int} {t : List Int} (h : Vals w G A ((v :: t).map iV)) (hb : Below G w x) : ∃ ad, A = some ad ∧ ad.block < G ∧ x.cell? ad = some (.int .i64 v) := by
  obtain ⟨ad, e, hB, hc⟩ := (h.step hb).at_ (i := 0) (u := iV v) rfl
  exact ⟨ad, e, hB, hc⟩

theorem step1_any {G n c m d : Nat} {A B : Option Addr} {vo : Value} {p : Pnt} {w x : World} {t : List Int} {ps : List Pnt} {cs : List Value} (hG : G = w.heap.size) (hT : Tab7 w) (h : MS G (.slice A n c) (.slice B m d) vo p w x)
    (hA : Vals w G A ((1 :: t).map iV)) (hn : n = t.length + 1) (hnc : n ≤ c) (hB : Cor w G B ps) (hm : m = ps.length) (hmd : m ≤ d) (hk : 1 ≤ m) (hn9 : n ≤ 1000000) (hd9 : d ≤ 9223372036854775807) {out : List SubV} (st : OutC (G + 1) out x vo cs) (hl : out.length ≤ 100000) :
    Calls Tryd.prog 31 #[.pointer (some ⟨G, 0, none⟩)] x fun e y => e = .returned (.tuple #[]) ∧ StepQ G n c m d 1 t (ps.drop 1) (out ++ [(ps.headD zP, [], false)]) 1 (ps.headD zP) w y := by
  have hTx : Tab7 x := hT.step (hG ▸ h.bel)
  clear hG
  obtain ⟨ad, rfl, hBad, ca⟩ := vals_at0 hA h.bel
  obtain ⟨A', ra1, ra2, ra3⟩ := cut_is (some ad) n c (by omega) hnc
  obtain ⟨B1, rb1, rb2, hB1⟩ := head_ps B m d 1 1 rfl hk hmd
  subst hB1
  obtain ⟨B', rc1, rc2, rc3⟩ := cut_ps B1 m d 1 1 rfl hk hmd
  have HA' := Lib.hid (vals_tail (A' := A') hA (fun h => ra3 (by simp at h; omega)))
  have HB' := Lib.hid (cor_tail (A' := B') (k := 1) hB (fun h => rc3 (by omega)))
  have HBH := Lib.hid (cor_head (k := 1) hB)
  have TK0 := q7takes_any 1 x hTx
  rw [show takesV 1 = 1 from by decide] at TK0
  have TK := Lib.hid TK0
  have HMx := Lib.hid h
  have HSt := Lib.hid st
  have c0 := h.c0; have c1 := h.c1
  have hGx := h.sz
  have n1 : (0 : Int) < (n : Int) := by omega
  have hcadB : ad.block < x.heap.size := by omega
  have HPS := Lib.hid hB
  have HN := Lib.hid hn
  have HM9 := Lib.hid hm
  have hm9 : 1 ≤ ps.length := by omega
  clear h st hA hB ra3 rc3 hTx TK0 hn hm
  go_enter Tryd.func31, Tryd.ntmps31
  go_wp2_with fail
  refine (TK.out).mono ?_
  rintro e x1 ⟨rfl, h1⟩
  have hM1 := HMx.out.after h1
  have hS1 := HSt.out.step h1
  clear ca c0 c1 h1 TK HMx HSt hGx hcadB
  have c0 := hM1.c0; have c1 := hM1.c1; have f0 := hM1.fz 0; have f1 := hM1.fz 1
  have hS1d := hS1.step ((Below.refl _ _).drew)
  go_upto_region 3 with fail
  go_cut [4] (fun s4 wx => s4 = .slice B1 1 d ∧ MS G (.slice A' (n - 1) (c - 1)) (.slice B' (m - 1) (d - 1)) vo p w wx ∧ OutC (G + 1) out wx vo cs)
  case first =>
    go_region
    all_goals
      go_wp2_with fail
      go_meet
      refine ⟨rfl, ?_, ?_⟩
      · first
          | exact (hM1.drew.put0 _).put1 _
          | exact (hM1.drew.put1 _).put0 _
      · first
          | exact (hS1d.setG 0 _).setG 1 _
          | exact (hS1d.setG 1 _).setG 0 _
  case rest =>
    clear hM1 hS1 hS1d c0 c1 f0 f1
    obtain ⟨rfl, hM, hS⟩ := hcut
    obtain ⟨⟨qx, qy⟩, ps2, hps⟩ : ∃ q l, ps = q :: l := by
      cases ps with
      | nil => simp at hm9
      | cons a l => exact ⟨a, l, rfl⟩
    obtain ⟨ad2, rfl, hB2, k0, k1⟩ := (HPS.out.step hM.bel).at_ (i := 0) (p := (qx, qy)) (by rw [hps]; rfl)
    have a0 : ad2.add (0 * 2) = ad2 := rfl
    rw [a0] at k0 k1
    dsimp only at k0 k1
    have HPE := Lib.hid (show ps.headD zP = (qx, qy) by rw [hps]; rfl)
    have BG := Lib.hid (fun (z : World) (hM : MS G (.slice A' (n - 1) (c - 1)) (.slice B' (m - 1) (d - 1)) vo p w z) (hS : OutC (G + 1) out z vo cs) => begin_any (q := (qx, qy)) hM hS hl)
    have HM := Lib.hid hM
    have HS := Lib.hid hS
    clear hM hS hps a0
    go_wp2_with fail
    refine (BG.out _ HM.out HS.out).mono ?_
    rintro e y ⟨rfl, vo', hM5, hS5⟩
    have HM5 := Lib.hid hM5
    have HS5 := Lib.hid hS5
    clear hM5 hS5
    go_wp2
    go_end0
    exact ⟨rfl, A', B', vo', (qx, qy), HM5.out, HA'.out, HB'.out, .inr ⟨out, (qx, qy), [], cs, _, by rw [HPE.out], HS5.out⟩, .inr HPE.out.symm⟩

theorem step5_any {G n c m d : Nat} {A B : Option Addr} {vo : Value} {p : Pnt} {w x : World} {t : List Int} {ps : List Pnt} {cs : List Value} (hG : G = w.heap.size) (hT : Tab7 w) (h : MS G (.slice A n c) (.slice B m d) vo p w x)
    (hA : Vals w G A ((5 :: t).map iV)) (hn : n = t.length + 1) (hnc : n ≤ c) (hB : Cor w G B ps) (hm : m = ps.length) (hmd : m ≤ d) (hk : 0 ≤ m) (hn9 : n ≤ 1000000) (hd9 : d ≤ 9223372036854775807) {o : List SubV} {q : Pnt} {sg : List SegV} {sv : Value} (st : SpS (G + 1) o q sg false x vo cs sv) (hl : o.length ≤ 100000) (hl2 : sg.length ≤ 100000) :
    Calls Tryd.prog 31 #[.pointer (some ⟨G, 0, none⟩)] x fun e y => e = .returned (.tuple #[]) ∧ StepQ G n c m d 0 t (ps.drop 0) (o ++ [(q, shutG p q sg, true)]) 5 p w y := by
  obtain ⟨gv, cap, rfl⟩ := st.form
  have hTx : Tab7 x := hT.step (hG ▸ h.bel)
  clear hG
  obtain ⟨ad, rfl, hBad, ca⟩ := vals_at0 hA h.bel
  obtain ⟨A', ra1, ra2, ra3⟩ := cut_is (some ad) n c (by omega) hnc
  obtain ⟨B1, rb1, rb2, hB1⟩ := head_ps B m d 0 0 rfl hk hmd
  subst hB1
  obtain ⟨B', rc1, rc2, rc3⟩ := cut_ps B1 m d 0 0 rfl hk hmd
  have HA' := Lib.hid (vals_tail (A' := A') hA (fun h => ra3 (by simp at h; omega)))
  have HB' := Lib.hid (cor_tail (A' := B') (k := 0) hB (fun h => rc3 (by omega)))
  have HBH := Lib.hid (cor_head (k := 0) hB)
  have TK0 := q7takes_any 5 x hTx
  rw [show takesV 5 = 0 from by decide] at TK0
  have TK := Lib.hid TK0
  have HMx := Lib.hid h
  have HSt := Lib.hid st
  have c0 := h.c0; have c1 := h.c1
  have hGx := h.sz
  have n1 : (0 : Int) < (n : Int) := by omega
  have hcadB : ad.block < x.heap.size := by omega
  have HPS := Lib.hid hB
  have HN := Lib.hid hn
  have HM9 := Lib.hid hm
  have hm9 : 0 ≤ ps.length := by omega
  clear h st hA hB ra3 rc3 hTx TK0 hn hm
  go_enter Tryd.func31, Tryd.ntmps31
  go_wp2_with fail
  refine (TK.out).mono ?_
  rintro e x1 ⟨rfl, h1⟩
  have hM1 := HMx.out.after h1
  have hS1 := HSt.out.step h1
  clear ca c0 c1 h1 TK HMx HSt hGx hcadB
  have c0 := hM1.c0; have c1 := hM1.c1; have f0 := hM1.fz 0; have f1 := hM1.fz 1
  have hS1d := hS1.step ((Below.refl _ _).drew)
  go_upto_region 3 with fail
  go_cut [4] (fun s4 wx => s4 = .slice B1 0 d ∧ MS G (.slice A' (n - 1) (c - 1)) (.slice B' (m - 0) (d - 0)) (.slice (some ⟨gv, 0, none⟩) (o.length + 1) cap) p w wx ∧ SpS (G + 1) o q sg false wx (.slice (some ⟨gv, 0, none⟩) (o.length + 1) cap) cs sv)
  case first =>
    go_region
    all_goals
      go_wp2_with fail
      go_meet
      refine ⟨rfl, ?_, ?_⟩
      · first
          | exact (hM1.drew.put0 _).put1 _
          | exact (hM1.drew.put1 _).put0 _
      · first
          | exact (hS1d.setG 0 _).setG 1 _
          | exact (hS1d.setG 1 _).setG 0 _
  case rest =>
    clear hM1 hS1 hS1d c0 c1 f0 f1
    obtain ⟨rfl, hM, hS⟩ := hcut
    have HM := Lib.hid hM
    have HS := Lib.hid hS
    have CL := Lib.hid (close_any hM hS hl hl2)
    clear hM hS
    go_wp2_with fail
    refine (CL.out).mono ?_
    rintro e y ⟨rfl, p', sv', hM5, hS5⟩
    have HM5 := Lib.hid hM5
    have HS5 := Lib.hid hS5.out
    clear hM5 hS5
    go_wp2
    go_end0
    exact ⟨rfl, A', B', _, p', HM5.out, HA'.out, HB'.out, .inl ⟨rfl, _, HS5.out⟩, .inl rfl⟩

theorem step2_any {G n c m d : Nat} {A B : Option Addr} {vo : Value} {p : Pnt} {w x : World} {t : List Int} {ps : List Pnt} {cs : List Value} (hG : G = w.heap.size) (hT : Tab7 w) (h : MS G (.slice A n c) (.slice B m d) vo p w x)
    (hA : Vals w G A ((2 :: t).map iV)) (hn : n = t.length + 1) (hnc : n ≤ c) (hB : Cor w G B ps) (hm : m = ps.length) (hmd : m ≤ d) (hk : 1 ≤ m) (hn9 : n ≤ 1000000) (hd9 : d ≤ 9223372036854775807) {o : List SubV} {q : Pnt} {sg : List SegV} {sv : Value} (st : SpS (G + 1) o q sg false x vo cs sv) (hl : o.length ≤ 100000) (hl2 : sg.length ≤ 100000) :
    Calls Tryd.prog 31 #[.pointer (some ⟨G, 0, none⟩)] x fun e y => e = .returned (.tuple #[]) ∧ StepQ G n c m d 1 t (ps.drop 1) (o ++ [(q, sg ++ [segV p (ps.take 1)], false)]) 2 (endV (segV p (ps.take 1))) w y := by
  obtain ⟨gv, cap, rfl⟩ := st.form
  have hTx : Tab7 x := hT.step (hG ▸ h.bel)
  clear hG
  obtain ⟨ad, rfl, hBad, ca⟩ := vals_at0 hA h.bel
  obtain ⟨A', ra1, ra2, ra3⟩ := cut_is (some ad) n c (by omega) hnc
  obtain ⟨B1, rb1, rb2, hB1⟩ := head_ps B m d 1 1 rfl hk hmd
  subst hB1
  obtain ⟨B', rc1, rc2, rc3⟩ := cut_ps B1 m d 1 1 rfl hk hmd
  have HA' := Lib.hid (vals_tail (A' := A') hA (fun h => ra3 (by simp at h; omega)))
  have HB' := Lib.hid (cor_tail (A' := B') (k := 1) hB (fun h => rc3 (by omega)))
  have HBH := Lib.hid (cor_head (k := 1) hB)
  have TK0 := q7takes_any 2 x hTx
  rw [show takesV 2 = 1 from by decide] at TK0
  have TK := Lib.hid TK0
  have HMx := Lib.hid h
  have HSt := Lib.hid st
  have c0 := h.c0; have c1 := h.c1
  have hGx := h.sz
  have n1 : (0 : Int) < (n : Int) := by omega
  have hcadB : ad.block < x.heap.size := by omega
  have HPS := Lib.hid hB
  have HN := Lib.hid hn
  have HM9 := Lib.hid hm
  have hm9 : 1 ≤ ps.length := by omega
  clear h st hA hB ra3 rc3 hTx TK0 hn hm
  go_enter Tryd.func31, Tryd.ntmps31
  go_wp2_with fail
  refine (TK.out).mono ?_
  rintro e x1 ⟨rfl, h1⟩
  have hM1 := HMx.out.after h1
  have hS1 := HSt.out.step h1
  clear ca c0 c1 h1 TK HMx HSt hGx hcadB
  have c0 := hM1.c0; have c1 := hM1.c1; have f0 := hM1.fz 0; have f1 := hM1.fz 1
  have hS1d := hS1.step ((Below.refl _ _).drew)
  go_upto_region 3 with fail
  go_cut [4] (fun s4 wx => s4 = .slice B1 1 d ∧ MS G (.slice A' (n - 1) (c - 1)) (.slice B' (m - 1) (d - 1)) (.slice (some ⟨gv, 0, none⟩) (o.length + 1) cap) p w wx ∧ SpS (G + 1) o q sg false wx (.slice (some ⟨gv, 0, none⟩) (o.length + 1) cap) cs sv)
  case first =>
    go_region
    all_goals
      go_wp2_with fail
      go_meet
      refine ⟨rfl, ?_, ?_⟩
      · first
          | exact (hM1.drew.put0 _).put1 _
          | exact (hM1.drew.put1 _).put0 _
      · first
          | exact (hS1d.setG 0 _).setG 1 _
          | exact (hS1d.setG 1 _).setG 0 _
  case rest =>
    clear hM1 hS1 hS1d c0 c1 f0 f1
    obtain ⟨rfl, hM, hS⟩ := hcut
    have hln : (ps.take 1).length = 1 := by rw [List.length_take]; omega
    have hBh := HBH.out.step hM.bel
    obtain ⟨ad2, rfl, hB2, -⟩ := hBh (by omega)
    have HM := Lib.hid hM
    have HS := Lib.hid hS
    have hGs := hM.sz
    have DR0 := draw_any ad2 d (ps.take 1) hM hS (hBh.more (by omega)) (by omega) hl hl2
    rw [hln] at DR0
    have DR := Lib.hid DR0
    clear hM hS DR0 hln hBh
    go_wp2_with fail
    refine (DR.out).mono ?_
    rintro e y ⟨rfl, sv', hM5, hS5⟩
    have HM5 := Lib.hid hM5
    have HS5 := Lib.hid hS5
    clear hM5 hS5
    go_wp2
    go_end0
    exact ⟨rfl, A', B', _, _, HM5.out, HA'.out, HB'.out, .inr ⟨o, q, _, cs, sv', rfl, HS5.out⟩, .inr rfl⟩

theorem step3_any {G n c m d : Nat} {A B : Option Addr} {vo : Value} {p : Pnt} {w x : World} {t : List Int} {ps : List Pnt} {cs : List Value} (hG : G = w.heap.size) (hT : Tab7 w) (h : MS G (.slice A n c) (.slice B m d) vo p w x)
    (hA : Vals w G A ((3 :: t).map iV)) (hn : n = t.length + 1) (hnc : n ≤ c) (hB : Cor w G B ps) (hm : m = ps.length) (hmd : m ≤ d) (hk : 2 ≤ m) (hn9 : n ≤ 1000000) (hd9 : d ≤ 9223372036854775807) {o : List SubV} {q : Pnt} {sg : List SegV} {sv : Value} (st : SpS (G + 1) o q sg false x vo cs sv) (hl : o.length ≤ 100000) (hl2 : sg.length ≤ 100000) :
    Calls Tryd.prog 31 #[.pointer (some ⟨G, 0, none⟩)] x fun e y => e = .returned (.tuple #[]) ∧ StepQ G n c m d 2 t (ps.drop 2) (o ++ [(q, sg ++ [segV p (ps.take 2)], false)]) 3 (endV (segV p (ps.take 2))) w y := by
  obtain ⟨gv, cap, rfl⟩ := st.form
  have hTx : Tab7 x := hT.step (hG ▸ h.bel)
  clear hG
  obtain ⟨ad, rfl, hBad, ca⟩ := vals_at0 hA h.bel
  obtain ⟨A', ra1, ra2, ra3⟩ := cut_is (some ad) n c (by omega) hnc
  obtain ⟨B1, rb1, rb2, hB1⟩ := head_ps B m d 2 2 rfl hk hmd
  subst hB1
  obtain ⟨B', rc1, rc2, rc3⟩ := cut_ps B1 m d 2 2 rfl hk hmd
  have HA' := Lib.hid (vals_tail (A' := A') hA (fun h => ra3 (by simp at h; omega)))
  have HB' := Lib.hid (cor_tail (A' := B') (k := 2) hB (fun h => rc3 (by omega)))
  have HBH := Lib.hid (cor_head (k := 2) hB)
  have TK0 := q7takes_any 3 x hTx
  rw [show takesV 3 = 2 from by decide] at TK0
  have TK := Lib.hid TK0
  have HMx := Lib.hid h
  have HSt := Lib.hid st
  have c0 := h.c0; have c1 := h.c1
  have hGx := h.sz
  have n1 : (0 : Int) < (n : Int) := by omega
  have hcadB : ad.block < x.heap.size := by omega
  have HPS := Lib.hid hB
  have HN := Lib.hid hn
  have HM9 := Lib.hid hm
  have hm9 : 2 ≤ ps.length := by omega
  clear h st hA hB ra3 rc3 hTx TK0 hn hm
  go_enter Tryd.func31, Tryd.ntmps31
  go_wp2_with fail
  refine (TK.out).mono ?_
  rintro e x1 ⟨rfl, h1⟩
  have hM1 := HMx.out.after h1
  have hS1 := HSt.out.step h1
  clear ca c0 c1 h1 TK HMx HSt hGx hcadB
  have c0 := hM1.c0; have c1 := hM1.c1; have f0 := hM1.fz 0; have f1 := hM1.fz 1
  have hS1d := hS1.step ((Below.refl _ _).drew)
  go_upto_region 3 with fail
  go_cut [4] (fun s4 wx => s4 = .slice B1 2 d ∧ MS G (.slice A' (n - 1) (c - 1)) (.slice B' (m - 2) (d - 2)) (.slice (some ⟨gv, 0, none⟩) (o.length + 1) cap) p w wx ∧ SpS (G + 1) o q sg false wx (.slice (some ⟨gv, 0, none⟩) (o.length + 1) cap) cs sv)
  case first =>
    go_region
    all_goals
      go_wp2_with fail
      go_meet
      refine ⟨rfl, ?_, ?_⟩
      · first
          | exact (hM1.drew.put0 _).put1 _
          | exact (hM1.drew.put1 _).put0 _
      · first
          | exact (hS1d.setG 0 _).setG 1 _
          | exact (hS1d.setG 1 _).setG 0 _
  case rest =>
    clear hM1 hS1 hS1d c0 c1 f0 f1
    obtain ⟨rfl, hM, hS⟩ := hcut
    have hln : (ps.take 2).length = 2 := by rw [List.length_take]; omega
    have hBh := HBH.out.step hM.bel
    obtain ⟨ad2, rfl, hB2, -⟩ := hBh (by omega)
    have HM := Lib.hid hM
    have HS := Lib.hid hS
    have hGs := hM.sz
    have DR0 := draw_any ad2 d (ps.take 2) hM hS (hBh.more (by omega)) (by omega) hl hl2
    rw [hln] at DR0
    have DR := Lib.hid DR0
    clear hM hS DR0 hln hBh
    go_wp2_with fail
    refine (DR.out).mono ?_
    rintro e y ⟨rfl, sv', hM5, hS5⟩
    have HM5 := Lib.hid hM5
    have HS5 := Lib.hid hS5
    clear hM5 hS5
    go_wp2
    go_end0
    exact ⟨rfl, A', B', _, _, HM5.out, HA'.out, HB'.out, .inr ⟨o, q, _, cs, sv', rfl, HS5.out⟩, .inr rfl⟩

theorem step4_any {G n c m d : Nat} {A B : Option Addr} {vo : Value} {p : Pnt} {w x : World} {t : List Int} {ps : List Pnt} {cs : List Value} (hG : G = w.heap.size) (hT : Tab7 w) (h : MS G (.slice A n c) (.slice B m d) vo p w x)
    (hA : Vals w G A ((4 :: t).map iV)) (hn : n = t.length + 1) (hnc : n ≤ c) (hB : Cor w G B ps) (hm : m = ps.length) (hmd : m ≤ d) (hk : 3 ≤ m) (hn9 : n ≤ 1000000) (hd9 : d ≤ 9223372036854775807) {o : List SubV} {q : Pnt} {sg : List SegV} {sv : Value} (st : SpS (G + 1) o q sg false x vo cs sv) (hl : o.length ≤ 100000) (hl2 : sg.length ≤ 100000) :
    Calls Tryd.prog 31 #[.pointer (some ⟨G, 0, none⟩)] x fun e y => e = .returned (.tuple #[]) ∧ StepQ G n c m d 3 t (ps.drop 3) (o ++ [(q, sg ++ [segV p (ps.take 3)], false)]) 4 (endV (segV p (ps.take 3))) w y := by
  obtain ⟨gv, cap, rfl⟩ := st.form
  have hTx : Tab7 x := hT.step (hG ▸ h.bel)
  clear hG
  obtain ⟨ad, rfl, hBad, ca⟩ := vals_at0 hA h.bel
  obtain ⟨A', ra1, ra2, ra3⟩ := cut_is (some ad) n c (by omega) hnc
  obtain ⟨B1, rb1, rb2, hB1⟩ := head_ps B m d 3 3 rfl hk hmd
  subst hB1
  obtain ⟨B', rc1, rc2, rc3⟩ := cut_ps B1 m d 3 3 rfl hk hmd
  have HA' := Lib.hid (vals_tail (A' := A') hA (fun h => ra3 (by simp at h; omega)))
  have HB' := Lib.hid (cor_tail (A' := B') (k := 3) hB (fun h => rc3 (by omega)))
  have HBH := Lib.hid (cor_head (k := 3) hB)
  have TK0 := q7takes_any 4 x hTx
  rw [show takesV 4 = 3 from by decide] at TK0
  have TK := Lib.hid TK0
  have HMx := Lib.hid h
  have HSt := Lib.hid st
  have c0 := h.c0; have c1 := h.c1
  have hGx := h.sz
  have n1 : (0 : Int) < (n : Int) := by omega
  have hcadB : ad.block < x.heap.size := by omega
  have HPS := Lib.hid hB
  have HN := Lib.hid hn
  have HM9 := Lib.hid hm
  have hm9 : 3 ≤ ps.length := by omega
  clear h st hA hB ra3 rc3 hTx TK0 hn hm
  go_enter Tryd.func31, Tryd.ntmps31
  go_wp2_with fail
  refine (TK.out).mono ?_
  rintro e x1 ⟨rfl, h1⟩
  have hM1 := HMx.out.after h1
  have hS1 := HSt.out.step h1
  clear ca c0 c1 h1 TK HMx HSt hGx hcadB
  have c0 := hM1.c0; have c1 := hM1.c1; have f0 := hM1.fz 0; have f1 := hM1.fz 1
  have hS1d := hS1.step ((Below.refl _ _).drew)
  go_upto_region 3 with fail
  go_cut [4] (fun s4 wx => s4 = .slice B1 3 d ∧ MS G (.slice A' (n - 1) (c - 1)) (.slice B' (m - 3) (d - 3)) (.slice (some ⟨gv, 0, none⟩) (o.length + 1) cap) p w wx ∧ SpS (G + 1) o q sg false wx (.slice (some ⟨gv, 0, none⟩) (o.length + 1) cap) cs sv)
  case first =>
    go_region
    all_goals
      go_wp2_with fail
      go_meet
      refine ⟨rfl, ?_, ?_⟩
      · first
          | exact (hM1.drew.put0 _).put1 _
          | exact (hM1.drew.put1 _).put0 _
      · first
          | exact (hS1d.setG 0 _).setG 1 _
          | exact (hS1d.setG 1 _).setG 0 _
  case rest =>
    clear hM1 hS1 hS1d c0 c1 f0 f1
    obtain ⟨rfl, hM, hS⟩ := hcut
    have hln : (ps.take 3).length = 3 := by rw [List.length_take]; omega
    have hBh := HBH.out.step hM.bel
    obtain ⟨ad2, rfl, hB2, -⟩ := hBh (by omega)
    have HM := Lib.hid hM
    have HS := Lib.hid hS
    have hGs := hM.sz
    have DR0 := draw_any ad2 d (ps.take 3) hM hS (hBh.more (by omega)) (by omega) hl hl2
    rw [hln] at DR0
    have DR := Lib.hid DR0
    clear hM hS DR0 hln hBh
    go_wp2_with fail
    refine (DR.out).mono ?_
    rintro e y ⟨rfl, sv', hM5, hS5⟩
    have HM5 := Lib.hid hM5
    have HS5 := Lib.hid hS5
    clear hM5 hS5
    go_wp2
    go_end0
    exact ⟨rfl, A', B', _, _, HM5.out, HA'.out, HB'.out, .inr ⟨o, q, _, cs, sv', rfl, HS5.out⟩, .inr rfl⟩
end Go.Proofs.YtalgmnnimfenpaaDoor.Q7
