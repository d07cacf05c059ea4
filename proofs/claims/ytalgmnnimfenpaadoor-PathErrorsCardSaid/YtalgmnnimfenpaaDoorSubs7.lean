/- The program's subpaths taken over as the document's: the law's own helper. -/
import Derived.Test.YtalgmnnimfenpaaDoorApp9
import Derived.Test.YtalgmnnimfenpaaDoorRef7D
namespace Go.Proofs.YtalgmnnimfenpaaDoor
open Go.RowKit
set_option linter.unusedVariables false
set_option linter.unusedSimpArgs false
set_option maxHeartbeats 4000000
set_option maxRecDepth 100000

def flatG (l : List SegV) : List Value := l.flatMap segC
theorem flatG_cons (g : SegV) (l : List SegV) : flatG (g :: l) = segC g ++ flatG l := by unfold flatG; simp
theorem flatG_snoc (l : List SegV) (g : SegV) : flatG (l ++ [g]) = flatG l ++ segC g := by unfold flatG; simp
theorem segC_len (g : SegV) : (segC g).length = 9 := rfl
theorem flatG_length (l : List SegV) : (flatG l).length = l.length * 9 := by
  induction l with
  | nil => rfl
  | cons g l ih => rw [flatG_cons, List.length_append, segC_len, ih, List.length_cons]; omega
theorem flatG_get (l : List SegV) : ∀ (i j : Nat) (g : SegV), l[i]? = some g → j < 9 → (flatG l)[i * 9 + j]? = (segC g)[j]? := by
  induction l with
  | nil => intro i j g h; simp at h
  | cons q l ih =>
    intro i j g h hj
    rw [flatG_cons]
    cases i with
    | zero =>
      simp at h; subst h
      rw [Nat.zero_mul, Nat.zero_add, List.getElem?_append_left (by rw [segC_len]; omega)]
    | succ i =>
      have := ih i j g (by simpa using h) hj
      rw [List.getElem?_append_right (by rw [segC_len]; omega), segC_len, show (i + 1) * 9 + j - 9 = i * 9 + j by omega]
      exact this
theorem segs_of_row {w : World} {B : Nat} {e : TypeId} {v : Value} {n : Nat} {l : List SegV} (h : w.ownsRow B e 9 v n (flatG l)) : ∃ A cap, v = .slice A l.length cap ∧ l.length = n ∧ Segs w w.heap.size A l ∧ ∀ ad, A = some ad → B ≤ ad.block ∧ ad.block < w.heap.size := by
  obtain ⟨hl, ⟨hv, hn⟩ | ⟨g, cap, cur, hv, hB, hh, hcap, hmax, hsz, htk⟩⟩ := h
  · rw [flatG_length] at hl
    have h0 : l.length = 0 := by omega
    exact ⟨none, 0, by rw [hv, h0], by omega, fun h => by omega, fun ad e => by cases e⟩
  · rw [flatG_length] at hl
    have h0 : l.length = n := by omega
    have hg : g < w.heap.size := by
      rcases Nat.lt_or_ge g w.heap.size with h1 | h1
      · exact h1
      · rw [Array.getElem?_eq_none h1] at hh; cases hh
    have ge : ∀ j u, (flatG l)[j]? = some u → w.cell? ⟨g, j, none⟩ = some u := fun j u hu => by
      rw [cell_of_row w g j cur e (0, 0) hh]
      rw [← htk, List.getElem?_take] at hu
      split at hu
      · simpa using hu
      · cases hu
    refine ⟨some ⟨g, 0, none⟩, cap, by rw [hv, h0], h0, fun _ => ⟨⟨g, 0, none⟩, rfl, hg, fun i q hq => ?_⟩, fun ad e => by cases e; exact ⟨hB, hg⟩⟩
    have hadd : (⟨g, 0, none⟩ : Addr).add (i * 9) = ⟨g, i * 9, none⟩ := by unfold Addr.add; split <;> simp_all
    rw [hadd]
    have at_ := fun j hj => flatG_get l i j q hq hj
    exact ⟨ge _ _ (at_ 0 (by omega)), ge _ _ (at_ 1 (by omega)), ge _ _ (at_ 2 (by omega)), ge _ _ (at_ 3 (by omega)), ge _ _ (at_ 4 (by omega)), ge _ _ (at_ 5 (by omega)), ge _ _ (at_ 6 (by omega)), ge _ _ (at_ 7 (by omega)), ge _ _ (at_ 8 (by omega))⟩
theorem info_sg : (Tryd.prog.info? 54).map (fun i => (i.zero, i.size, i.bytes)) = some (some (.agg #[.int .i64 0, .int .i64 0, .int .i64 0, .int .i64 0, .int .i64 0, .int .i64 0, .int .i64 0, .int .i64 0, .int .i64 0]), 9, 72) := by kernel_rfl
theorem und_sgs : Tryd.prog.underlying 67 = some (.slice 54) := by kernel_rfl
theorem info_sb : (Tryd.prog.info? 69).map (fun i => (i.zero, i.size, i.bytes)) = some (some (.agg #[.int .i64 0, .int .i64 0, .slice none 0 0, .bool false]), 4, 48) := by kernel_rfl
theorem und_sbs : Tryd.prog.underlying 32 = some (.slice 69) := by kernel_rfl
/-- A subpath under way, in the struct at block g. -/
structure SB (g : Nat) (sx sy : Int) (sv : Value) (cl : Bool) (w x : World) : Prop where
  c0 : x.cell? ⟨g, 0, none⟩ = some (.int .i64 sx)
  c1 : x.cell? ⟨g, 1, none⟩ = some (.int .i64 sy)
  c2 : x.cell? ⟨g, 2, none⟩ = some sv
  c3 : x.cell? ⟨g, 3, none⟩ = some (.bool cl)
  f2 : x.frozen? ⟨g, 2, none⟩ = false
  bel : Below g w x
  sz : g + 1 ≤ x.heap.size
theorem SB.step {g : Nat} {sx sy : Int} {sv : Value} {cl : Bool} {w x x' : World} (h : SB g sx sy sv cl w x) (hb : Below (g + 1) x x') : SB g sx sy sv cl w x' :=
  ⟨(hb.cell (Nat.lt_succ_self _)).trans h.c0, (hb.cell (Nat.lt_succ_self _)).trans h.c1, (hb.cell (Nat.lt_succ_self _)).trans h.c2, (hb.cell (Nat.lt_succ_self _)).trans h.c3, (hb.frozen (Nat.lt_succ_self _)).trans h.f2, h.bel.trans (hb.mono (Nat.le_succ _)), Nat.le_trans h.sz hb.size⟩
theorem SB.drew {g : Nat} {sx sy : Int} {sv : Value} {cl : Bool} {w x : World} (h : SB g sx sy sv cl w x) : SB g sx sy sv cl w x.drew := ⟨h.c0, h.c1, h.c2, h.c3, h.f2, h.bel.drew, h.sz⟩
theorem SB.put {g : Nat} {sx sy : Int} {sv : Value} {cl : Bool} {w x : World} (h : SB g sx sy sv cl w x) (v : Value) : SB g sx sy v cl w (x.setCell ⟨g, 2, none⟩ v) :=
  ⟨(World.cell?_setCell_other _ _ _ _ (by simp)).trans h.c0, (World.cell?_setCell_other _ _ _ _ (by simp)).trans h.c1, World.cell?_setCell_same _ _ _ h.c2, (World.cell?_setCell_other _ _ _ _ (by simp)).trans h.c3, by rw [World.frozen?_setCell]; exact h.f2, h.bel.setCell (Nat.le_refl _) _, by simpa [World.setCell] using h.sz⟩

theorem subs7_any (A : Option Addr) (ca : Nat) (l : List SubV) (w : World) (h : Subs w w.heap.size A l) (b1 : l.length ≤ 1000000) (b2 : ∀ x ∈ l, x.2.1.length ≤ 1000000) :
    Calls Tryd.prog 19 #[.slice A l.length ca] w fun e w' => ∃ A' c', e = .returned (.slice A' l.length c') ∧ Subs w' w'.heap.size A' l ∧ Below w.heap.size w w' := by
  obtain ⟨i0, ki, kz0, kz1, kz2⟩ := info_parts info_sg
  obtain ⟨i1, hi, hz0, hz1, hz2⟩ := info_parts info_sb
  have H := Lib.hid h
  have B2 := Lib.hid b2
  clear h b2
  obtain ⟨L, hL⟩ : ∃ L, l.length = L := ⟨_, rfl⟩
  rw [hL] at b1 ⊢
  have HL := Lib.hid hL
  clear hL
  have h00 := World.ownsRow_made (size := 4) (e := 69) (base := w.heap.size) w #[] 0 (Nat.le_refl _) (Nat.zero_le _) rfl
  have H00 := Lib.hid h00
  clear h00
  go_enter Tryd.func19, Tryd.ntmps19
  go_wp2
  go_loopw [3, 4] (fun v s4 wr => ∃ (i : Nat) (cs : List Value), s4 = .int .i64 i ∧ i ≤ L ∧ OutC w.heap.size (l.take i) wr v cs ∧ Below w.heap.size w wr) (fun _ s4 _ => L - (intOf s4).toNat)
  case atStart => exact ⟨0, [], rfl, Nat.zero_le _, ⟨H00.out, fun k x hx => by simp at hx⟩, (Below.refl _ _).alloc (Nat.le_refl _) _⟩
  case round =>
    obtain ⟨i, cs, rfl, hi', hO, hbw⟩ := hrel
    by_cases hlt : i < L
    · obtain ⟨⟨⟨sx, sy⟩, sg, cl⟩, hp⟩ : ∃ p, l[i]? = some p := ⟨_, List.getElem?_eq_getElem (by rw [HL.out]; exact hlt)⟩
      obtain ⟨ad, rfl, hB, e0, e1, ⟨Ag, cg, e2, hsg⟩, e3⟩ := (H.out.step hbw).at_ hp
      dsimp only [nx] at e0 e1 e2 e3 hsg
      have hBa : (ad.add (i * 4)).block < w.heap.size := by rw [block_add]; exact hB
      have hm := B2.out _ (List.mem_of_getElem? hp)
      dsimp only at hm
      have HTK := Lib.hid (show l.take (i + 1) = l.take i ++ [((sx, sy), sg, cl)] by rw [List.take_add_one, hp]; rfl)
      obtain ⟨m, hmm⟩ : ∃ m, sg.length = m := ⟨_, rfl⟩
      rw [hmm] at e2 hm
      have HM := Lib.hid hmm
      have HSG := Lib.hid hsg
      have HO := Lib.hid hO
      have p1 : decide ((i : Int) < (L : Int)) = true := by simp; omega
      have p2 : (0 : Int) ≤ (i : Int) := by omega
      have p3 : (i : Int) < (L : Int) := by omega
      have p4 : IntKind.i64.wrap ((i : Int) + 1) = (i : Int) + 1 := IntWalk.i64_in _ (by omega)
      have hsw := hbw.size
      clear hp hmm hsg hO
      obtain ⟨w5, hw5⟩ : ∃ w5 : World, w5 = wr := ⟨_, rfl⟩
      subst hw5
      have a0 : ∀ o : Obj, (w5.alloc o).cell? (ad.add (i * 4)) = some (.int .i64 sx) := fun o => (World.cell?_alloc_old _ _ _ (by omega)).trans e0
      have a1 : ∀ o : Obj, (w5.alloc o).cell? ⟨(ad.add (i * 4)).block, (ad.add (i * 4)).off + 1, none⟩ = some (.int .i64 sy) := fun o => (World.cell?_alloc_old _ _ _ (by (try dsimp only); omega)).trans e1
      have a3 : ∀ o : Obj, (w5.alloc o).cell? ⟨(ad.add (i * 4)).block, (ad.add (i * 4)).off + 3, none⟩ = some (.bool cl) := fun o => (World.cell?_alloc_old _ _ _ (by (try dsimp only); omega)).trans e3
      go_upto_region 5 with fail
      go_cut [5] (fun s5 wx => s5 = .pointer (some ⟨w5.heap.size, 0, none⟩) ∧ SB w5.heap.size sx sy (.slice none 0 0) cl w5 wx)
      case first =>
        go_region
        all_goals
          go_wp2_with fail
          go_meet
          exact ⟨rfl, ⟨by simp, by simp, by simp, by simp, by simp, by repeat (first | exact Below.refl _ _ | refine Below.drew ?_ | refine Below.setCell ?_ (Nat.le_refl _) _ | refine Below.alloc ?_ (Nat.le_refl _) _), by simp⟩⟩
      case rest =>
        clear e0 e1 e2 e3 a0 a1 a3
        obtain ⟨rfl, hS⟩ := hcut
        obtain ⟨g, hg⟩ : ∃ g, w5.heap.size = g := ⟨_, rfl⟩
        have HCUR := Lib.hid (fun z (hz : Below w5.heap.size w5 z) => (H.out.step (hbw.trans (hz.mono hsw))))
        have HPT := Lib.hid (show l[i]? = some ((sx, sy), sg, cl) by
          have h1 := HTK.out
          have h2 := congrArg (fun q => q[i]?) h1
          (try dsimp only at h2)
          rw [List.getElem?_take, if_pos (Nat.lt_succ_self i)] at h2
          rw [h2, List.getElem?_append_right (by rw [List.length_take]; omega), List.length_take, HL.out, Nat.min_eq_left (by omega), Nat.sub_self]; rfl)
        go_upto_region 6 with fail
        go_wp2_with fail
        clear hg g
        go_loopw [6] (fun s6 wx => ∃ (k : Nat) (sv : Value), s6 = .int .i64 k ∧ k ≤ m ∧ SB w5.heap.size sx sy sv cl w5 wx ∧ wx.ownsRow (w5.heap.size + 1) 54 9 sv k (flatG (sg.take k))) (fun s6 _ => m - (intOf s6).toNat)
        case atStart => exact ⟨0, _, rfl, Nat.zero_le _, hS, World.ownsRow_nil _ _ _ _⟩
        case round =>
          clear hS
          obtain ⟨k, sv, rfl, hk, hS, hown⟩ := hrel
          obtain ⟨ad', ea, _, t0, t1, ⟨Ag, cg, t2, hsg⟩, t3⟩ := (HCUR.out _ hS.bel).at_ HPT.out
          obtain rfl := Option.some.inj ea
          dsimp only [nx] at t0 t1 t2 t3 hsg
          rw [HM.out] at t2
          have hsz := hS.sz
          by_cases hkt : k < m
          · obtain ⟨⟨⟨⟨a, b⟩, ⟨c, d⟩, ⟨e, f⟩, ⟨g, h⟩⟩, n⟩, hg⟩ : ∃ g, sg[k]? = some g := ⟨_, List.getElem?_eq_getElem (by rw [HM.out]; exact hkt)⟩
            obtain ⟨ag, rfl, hBg, r0, r1, r2, r3, r4, r5, r6, r7, r8⟩ := hsg.at_ hg
            dsimp only [nx] at r0 r1 r2 r3 r4 r5 r6 r7 r8
            have HF := Lib.hid (show flatG (sg.take (k + 1)) = flatG (sg.take k) ++ [.int .i64 a, .int .i64 b, .int .i64 c, .int .i64 d, .int .i64 e, .int .i64 f, .int .i64 g, .int .i64 h, .int .i64 n] by
              rw [List.take_add_one, hg]; exact flatG_snoc _ _)
            obtain ⟨pf, hpf⟩ : ∃ pf, flatG (sg.take k) = pf := ⟨_, rfl⟩
            rw [hpf] at hown HF
            have q1 : decide ((k : Int) < (m : Int)) = true := by simp; omega
            have q2 : (0 : Int) ≤ (k : Int) := by omega
            have q3 : (k : Int) < (m : Int) := by omega
            have q4 : IntKind.i64.wrap ((k : Int) + 1) = (k : Int) + 1 := IntWalk.i64_in _ (by omega)
            have c2 := hS.c2
            have f2 := hS.f2
            have hag : (ag.add (k * 9)).block < w.heap.size := by rw [block_add]; exact hBg
            obtain ⟨w8, hw8⟩ : ∃ w8 : World, w8 = wr := ⟨_, rfl⟩
            subst hw8
            have hal : ∀ o : Obj, (w8.alloc o).cell? ⟨w5.heap.size, 2, none⟩ = some sv := fun o => (World.cell?_alloc_old _ _ _ (by (try dsimp only); omega)).trans c2
            have hSd := hS.drew
            have hod := hown.drew
            clear hg hpf hsg
            go_upto_region 9 with fail
            go_region_law (refine step_append_full (by rfl) _ _ (by rfl) (w5.heap.size + 1) i0 _ 9 72 und_sgs und_sgs ki kz0 kz1 kz2 rfl (by omega) sv k pf (by rfl) (hod.alloc _) (some ⟨w8.heap.size, 0, none⟩) 1 1 [.int .i64 a, .int .i64 b, .int .i64 c, .int .i64 d, .int .i64 e, .int .i64 f, .int .i64 g, .int .i64 h, .int .i64 n] (by rfl) (by rfl) (fun j u hu => ⟨_, rfl, World.news_of_block (cs := #[.int .i64 a, .int .i64 b, .int .i64 c, .int .i64 d, .int .i64 e, .int .i64 f, .int .i64 g, .int .i64 h, .int .i64 n]) (t := 54) (fr := (0, 0)) (heap_alloc_new w8.drew _) j u hu⟩) (by simp [Value.oneCell']) (by simp) (by simp [maxLen]; omega) (by omega) (by simp; omega) ?_; intro a7 c7 w7 ap7; have ky := (hSd.step ((Below.refl _ _).alloc hSd.sz _)).step ((Below.refl _ _).grown ap7.grew (by simp; omega) (ownsRow_ge hod)); have c2 := ky.c2; have f2 := ky.f2)
            all_goals
              have kz := ky.put (.slice a7 (k + 1) c7)
              have ho := ownsRow_set ap7.row 2 (.slice a7 (k + 1) c7)
              go_wp2
              go_roundw
              case rel => exact ⟨k + 1, _, by go_num, by omega, kz, by rw [HF.out]; exact ho⟩
              case measure => simp [intOf]; omega
          · obtain rfl : k = m := by omega
            have hm2 : sg.take k = sg := by rw [← HM.out, List.take_length]
            rw [hm2] at hown
            obtain ⟨A9, c9, hsv, -, hs9, hf9⟩ := segs_of_row hown
            subst hsv
            rw [HM.out] at hS hown
            have hOr := HO.out.step hS.bel
            have hlt3 : ∀ g, u3.ownBlock = some g → g < w5.heap.size := fun g hg => (HO.out.row.lt g hg).2
            have hti : (l.take i).length = i := by rw [List.length_take, HL.out]; omega
            have HTI := Lib.hid hti
            have hbr := hbw.trans (hS.bel.mono hsw)
            have hrow := hOr.row
            rw [hti] at hrow
            have q1 : decide ((k : Int) < (k : Int)) = false := by simp
            have k0 := hS.c0
            have k1 := hS.c1
            have k2 := hS.c2
            have k3 := hS.c3
            have HSG9 := Lib.hid hs9
            have hszr := hbr.size
            clear hm2 hsg hti hown hs9
            go_upto_region 10 with fail
            iterate 10 (first | go_step | go_simp)
            refine wpList_append_full _ rfl _ _ rfl w.heap.size i1 _ 4 48 und_sbs und_sbs hi hz0 hz1 hz2 rfl (by omega) u3 i cs (by rfl) (hrow.alloc _) (some ⟨wr.heap.size, 0, none⟩) 1 1 [.int .i64 sx, .int .i64 sy, .slice A9 k c9, .bool cl] (by rfl) (by rfl) (fun j u hu => ⟨_, rfl, World.news_of_block (cs := #[.int .i64 sx, .int .i64 sy, .slice A9 k c9, .bool cl]) (t := 69) (fr := (0, 0)) (heap_alloc_new wr _) j u hu⟩) (by simp [Value.oneCell']) (by simp) (by simp [maxLen]; omega) (by omega) (by simp; omega) ?_
            intro a7 c7 w7 ap7
            have hb7 := (hbr.alloc hszr _).grown ap7.grew (by simp; omega) (ownsRow_ge hrow)
            have hal := (Below.refl wr.heap.size wr).alloc (Nat.le_refl _) (Obj.cells #[.int .i64 sx, .int .i64 sy, .slice A9 k c9, .bool cl] 69)
            have hend : OutC w.heap.size (l.take (i + 1)) w7 (.slice a7 (i + 1) c7) (cs ++ subC ((sx, sy), sg, cl) A9 c9) := by
              rw [HTK.out]
              refine (hOr.step hal).push ((sx, sy), sg, cl) A9 c9 (HSG9.out.calls hal) (fun ad e => ?_) ?_
              · obtain ⟨y1, y2⟩ := hf9 ad e
                refine ⟨by omega, by simp; omega, fun y => ?_⟩
                have := hlt3 _ y
                omega
              · rw [HTI.out]
                have hsub : subC ((sx, sy), sg, cl) A9 c9 = [.int .i64 sx, .int .i64 sy, .slice A9 k c9, .bool cl] := by unfold subC; rw [HM.out]
                rw [hsub]; exact ap7
            clear ap7 hOr hrow k0 k1 k2 k3 hal
            go_wp2
            go_roundw
            case rel => exact ⟨i + 1, _, by go_num, by omega, hend, hb7⟩
            case measure => simp [intOf]; omega
    · obtain rfl : i = L := by omega
      have hi2 : l.take i = l := by rw [← HL.out, List.take_length]
      rw [hi2] at hO
      obtain ⟨A', c', hv, hsubs⟩ := hO.subs
      rw [HL.out] at hv
      subst hv
      have q1 : decide ((i : Int) < (i : Int)) = false := by simp
      have HS := Lib.hid hsubs
      clear hi2 hO hsubs
      go_wp2
      go_ret
      exact ⟨A', c', rfl, HS.out, hbw⟩
end Go.Proofs.YtalgmnnimfenpaaDoor
