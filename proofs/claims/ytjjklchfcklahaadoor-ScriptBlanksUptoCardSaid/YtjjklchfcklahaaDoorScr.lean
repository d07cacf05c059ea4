/- What the program's own scripts answer: Print; and Parse (ScrQ). -/
import Derived.Test.YtjjklchfcklahaaDoorScrQ
import Derived.Test.YtjjklchfcklahaaDoorScrPr
import Derived.Test.YtjjklchfcklahaaDoorCuts
import Derived.Test.YtjjklchfcklahaaDoorShelf
import Derived.Test.YtjjklchfcklahaaDoorRef7F
import Derived.Deep.RegionLaw
namespace Go.Proofs.YtjjklchfcklahaaDoor
open Go.RowKit
set_option linter.unusedVariables false
set_option linter.unusedSimpArgs false
set_option maxHeartbeats 2000000
set_option maxRecDepth 100000

theorem info_s8 : (Tryd.prog.info? 9).map (fun i => (i.zero, i.size, i.bytes)) = some (some (.string ⟨#[]⟩), 1, 16) := by kernel_rfl
theorem und_ss8 : Tryd.prog.underlying 40 = some (.slice 9) := by kernel_rfl
theorem let_at {v : Int} (h : v = 1 ∨ v = 5 ∨ v = 2 ∨ v = 3 ∨ v = 4) {w : World} (hT : Tab9 w) : ∃ n : Nat, v = (n : Int) ∧ 0 < n ∧ n < 6 ∧ ∃ s : ByteArray, s.data.toList = [letterB v] ∧ w.cell? ⟨0, n, none⟩ = some (.string s) := by
  rcases h with rfl | rfl | rfl | rfl | rfl
  · exact ⟨1, rfl, by omega, by omega, ⟨#[77]⟩, rfl, hT.cell 1⟩
  · exact ⟨5, rfl, by omega, by omega, ⟨#[90]⟩, rfl, hT.cell 5⟩
  · exact ⟨2, rfl, by omega, by omega, ⟨#[76]⟩, rfl, hT.cell 2⟩
  · exact ⟨3, rfl, by omega, by omega, ⟨#[81]⟩, rfl, hT.cell 3⟩
  · exact ⟨4, rfl, by omega, by omega, ⟨#[67]⟩, rfl, hT.cell 4⟩
theorem needs_le9 : ∀ vs : List Int, needs vs ≤ 3 * (vs.length : Int)
  | [] => by simp [needs]
  | v :: t => by
    have h1 := needs_le9 t
    have h2 := takes_bd v
    unfold needs
    rw [List.length_cons]
    omega
def strV (s : ByteArray) : Value := .string s
def bsL (ws : List ByteArray) : List (List UInt8) := ws.map (·.data.toList)

theorem sprint_any (A B : Option Addr) (cv cp : Nat) (vs : List Int) (ps : List Pnt) (w : World) (hT : Tabs8 w) (hr : Vals w w.heap.size A (vs.map iV)) (hq : Cor w w.heap.size B ps) (hl : vs.length ≤ 9223372036854775807) (hp : ps.length ≤ 9223372036854775807) (hcp : ps.length ≤ cp) :
    Calls Tryd.prog 9 #[PathA A vs.length cv B ps.length cp] w fun e w' => e = .returned (.tuple #[S (printE vs ps), .int .i64 (pathE vs ps)]) ∧ Below w.heap.size w w' := by
  obtain ⟨i0, ki, kz0, kz1, kz2⟩ := info_parts info_s8
  have CK0 := fun w hT hr hq => q7check_any A B cv cp vs ps w hT hr hq hl hp
  have HTB := Lib.hid (fun (W : World) (hb : Below w.heap.size w W) => hT.step hb)
  have HV := Lib.hid hr
  have HP := Lib.hid hq
  obtain ⟨V, hV⟩ : ∃ V, vs.length = V := ⟨_, rfl⟩
  obtain ⟨P, hP⟩ : ∃ P, ps.length = P := ⟨_, rfl⟩
  obtain ⟨E, hE⟩ : ∃ E, pathE vs ps = E := ⟨_, rfl⟩
  rw [hV] at hl CK0
  rw [hP] at hp hcp CK0
  rw [hV, hP, hE]
  simp only [hE] at CK0
  have CK := Lib.hid CK0
  have HLV := Lib.hid hV
  have HLP := Lib.hid hP
  have HE := Lib.hid hE
  clear hr hq hV hP hE CK0 hT
  go_enter Tryd.func9, Tryd.ntmps9
  go_wp2_with fail
  refine (CK.out _ (HTB.out _ ((Below.refl _ _).alloc (Nat.le_refl _) _)).1 ((HV.out.step ((Below.refl _ _).alloc (Nat.le_refl _) _)).more (by simp)) ((HP.out.step ((Below.refl _ _).alloc (Nat.le_refl _) _)).more (by simp))).mono ?_
  rintro e w1 ⟨rfl, h1⟩
  have c1 : w1.cell? ⟨w.heap.size, 0, none⟩ = some (.slice A V cv) := (h1.cell (p := ⟨w.heap.size, 0, none⟩) (by simp)).trans (by first | simp | simp [go_sem])
  have c2 : w1.cell? ⟨w.heap.size, 1, none⟩ = some (.slice B P cp) := (h1.cell (p := ⟨w.heap.size, 1, none⟩) (by simp)).trans (by first | simp | simp [go_sem])
  have hb0 : Below w.heap.size w w1 := ((Below.refl _ _).alloc (by simp) _).trans (h1.mono (by simp))
  clear h1
  by_cases h0 : E = 0
  rotate_left
  · have HF := Lib.hid (show S (printE vs ps) = .string ⟨#[]⟩ by unfold printE; rw [HE.out, if_neg h0]; rfl)
    have q1 : (E != 0) = true := by simpa using h0
    have q2 : (E == 0) = false := by simpa using h0
    clear h0
    go_wp2
    go_ret2
    exact ⟨by rw [HF.out]; rfl, hb0⟩
  subst h0
  have HF := Lib.hid (show printE vs ps = printT vs ps by unfold printE; rw [if_pos HE.out])
  have hck := check_ok.1 HE.out
  have HCM := Lib.hid (chk_mem vs 5 hck.2.1)
  have HND := Lib.hid hck.2.2.1
  have hV5 : V ≤ 512 := by rw [← HLV.out]; exact hck.1
  have hP5 : P ≤ 1536 := by
    have := needs_le9 vs
    have h3 := HND.out
    rw [HLP.out] at h3
    rw [HLV.out] at this
    omega
  have HSZ := Lib.hid (show (printT vs ps).length ≤ 130000 by
    have h1 := prS_le vs ps (fun p hp => by
      have := far_of_path HE.out p hp
      exact ⟨by have := this.1; omega, by have := this.2; omega⟩)
    unfold printT; rw [List.length_tail]; rw [HLV.out, HLP.out] at h1; omega)
  clear hck
  go_wp2
  go_loopw [5, 6, 22] (fun s5 s6 s22 wr => ∃ (ws : List ByteArray) (i n M D : Nat) (B' : Option Addr), s6 = .slice B' M D ∧ s22 = .int .i64 i ∧ i ≤ V ∧ (M + n = P ∧ M ≤ D) ∧ (n : Int) + needs (vs.drop i) = P ∧ ws.length ≤ i + 2 * n ∧ wr.ownsRow w.heap.size 9 1 s5 ws.length (ws.map strV) ∧ bsL ws ++ wsP (vs.drop i) (ps.drop n) = wsP vs ps ∧ Cor w w.heap.size B' (ps.drop n) ∧ Below w.heap.size w wr) (fun _ _ s22 _ => V - (intOf s22).toNat)
  case atStart => exact ⟨[], 0, 0, P, cp, B, rfl, rfl, Nat.zero_le _, ⟨rfl, hcp⟩, by simp [HND.out, HLP.out], Nat.le_refl _, World.ownsRow_nil _ _ _ _, by simp [bsL], HP.out, hb0⟩
  case round =>
    obtain ⟨ws, i, n, M, D, B', rfl, rfl, hi, ⟨hMn, hMD⟩, hn, hwl, hown, htold, hcor, hbW⟩ := hrel
    have hz1 := hbW.size
    by_cases hlt : i < V
    · obtain ⟨v, hv⟩ : ∃ v, vs[i]? = some v := ⟨_, List.getElem?_eq_getElem (by rw [HLV.out]; exact hlt)⟩
      have hok := HCM.out v (List.mem_of_getElem? hv)
      have hnd := needs_drop hv
      have hnn := needs_ok (vs.drop (i + 1)) (fun u hu => HCM.out u (List.mem_of_mem_drop hu))
      obtain ⟨T, hTv⟩ : ∃ T : Nat, takesV v = T := ⟨(takesV v).toNat, by rcases hok with rfl | rfl | rfl | rfl | rfl <;> decide⟩
      have htw := ws_verb (ps := ps) (n := n) hv
      rw [hTv, Int.toNat_natCast] at htw
      have hTM : T ≤ M := by omega
      obtain ⟨ad, rfl, hBa, g1⟩ := ints_at (HV.out.step hbW) hv
      have hTw := HTB.out _ hbW
      obtain ⟨nv, hnv, hn0, hn6, sl, hsl, gl⟩ := let_at hok hTw.2.2
      have TK0 := q7takes_any v wr hTw.1
      rw [hTv] at TK0
      have TK := Lib.hid TK0
      have HSL := Lib.hid hsl
      have HOWN := Lib.hid hown
      have HN1 := Lib.hid (show ((n + T : Nat) : Int) + needs (vs.drop (i + 1)) = P by omega)
      have HTW := Lib.hid (show bsL ws ++ ([letterB v] :: (((ps.drop n).take T).flatMap (fun p => [pr p.1, pr p.2]) ++ wsP (vs.drop (i + 1)) (ps.drop (n + T)))) = wsP vs ps by rw [← htw]; exact htold)
      have HCOR := Lib.hid hcor
      have HWL := Lib.hid hwl
      have q1 : decide ((i : Int) < (V : Int)) = true := by simp; omega
      have q2 : (0 : Int) ≤ (i : Int) := by omega
      have q3 : (i : Int) < (V : Int) := by omega
      have q4 : (0 : Int) ≤ (nv : Int) := by omega
      have q5 : (nv : Int) < 6 := by omega
      have q6 : IntKind.i64.wrap ((i : Int) + 1) = (i : Int) + 1 := IntWalk.i64_in _ (by omega)
      have hlw : ws.length ≤ 4000 := by omega
      clear htw htold TK0 hsl hown hcor hn hnd hnn hTv hv hok hwl
      subst hnv
      go_wp2_with fail
      refine (TK.out).mono ?_
      rintro e w3 ⟨rfl, h3⟩
      have hb3 : Below w.heap.size w w3 := hbW.trans (h3.mono hz1)
      have gl3 := (HTB.out _ hb3).2.2
      have gl := ((HTB.out _ hbW).2.2.cell nv).symm.trans gl
      have gl := (gl3.cell nv).trans gl
      have own3 := ownsRow_after HOWN.out h3
      have hs3 := hb3.size
      clear TK h3 gl3 g1 HOWN
      go_upto_region 10 with fail
      iterate 16 (first | go_step | go_simp)
      refine wpList_append_full _ rfl _ _ rfl w.heap.size i0 _ 1 16 und_ss8 und_ss8 ki kz0 kz1 kz2 rfl (by omega) u5 ws.length (ws.map strV) (by rfl) (own3.alloc _) (some ⟨w3.heap.size, 0, none⟩) 1 1 [.string sl] (by rfl) (by rfl) (fun j u hu => ⟨_, rfl, World.news_of_block (cs := #[.string sl]) (t := 9) (fr := (0, 0)) (heap_alloc_new w3 _) j u hu⟩) (by simp [Value.oneCell']) (by simp) (by simp [maxLen]; omega) (by omega) (by simp; omega) ?_
      intro a5 c5 w5 ap5
      have hbal : Below w.heap.size w (w3.alloc (.cells #[.string sl] 9)) := hb3.alloc hs3 _
      have hb5 : Below w.heap.size w w5 := hbal.trans ((Below.refl _ _).grown ap5.grew (by simp; omega) (ownsRow_ge own3))
      have own5 := ap5.row
      obtain ⟨ws1, hws1⟩ : ∃ ws1, ws ++ [sl] = ws1 := ⟨_, rfl⟩
      have hl1 : ws1.length = ws.length + 1 := by rw [← hws1]; simp
      have HOWN5 := Lib.hid (show w5.ownsRow w.heap.size 9 1 (.slice a5 (ws.length + 1) c5) ws1.length (ws1.map strV) by rw [hl1, ← hws1, List.map_append]; exact own5)
      have HTW1 := Lib.hid (show bsL ws1 ++ ((((ps.drop n).take T).drop 0).flatMap (fun p => [pr p.1, pr p.2]) ++ wsP (vs.drop (i + 1)) (ps.drop (n + T))) = wsP vs ps by
        rw [← HTW.out, ← hws1, List.drop_zero]
        unfold bsL
        rw [List.map_append, List.append_assoc]
        show _ ++ ([sl.data.toList] ++ _) = _
        rw [HSL.out]; rfl)
      obtain ⟨B1, s1, s2, e1⟩ := shead_ps B' M D T T rfl hTM hMD
      obtain ⟨B2, s3, s4, e2⟩ := scut_ps B' M D T T rfl hTM hMD
      have HC1 := Lib.hid (show Cor w w.heap.size B1 ((ps.drop n).take T) by rw [e1]; exact scor_head HCOR.out)
      have HC2 := Lib.hid (show Cor w w.heap.size B2 (ps.drop (n + T)) by
        have := scor_tail HCOR.out (A' := B2) (k := T) (fun h => e2 (by rw [List.length_drop, HLP.out] at h; omega))
        rwa [List.drop_drop] at this)
      have HL1 := Lib.hid (show ws1.length ≤ i + 1 + 2 * (n + 0) by have := HWL.out; omega)
      have HTL := Lib.hid (show ((ps.drop n).take T).length = T by rw [List.length_take, List.length_drop, HLP.out]; omega)
      clear ap5 own5 own3 hbal hb3 hws1 HTW HSL HCOR e1 e2 gl hs3 hl1
      go_upto_region 11 with fail
      refine any_gen (fun z => z.ownsRow w.heap.size 9 1 (.slice a5 (ws.length + 1) c5) ws1.length (ws1.map strV) ∧ Below w.heap.size w z) ⟨HOWN5.out, hb5⟩ ?_
      clear hb5 HOWN5
      rintro w6 ⟨hown6, hb6⟩
      have HOWN6 := Lib.hid hown6
      have HB6 := Lib.hid hb6
      clear hown6 hb6
      go_wp2
      go_loopw [5, 38] (fun s5 s38 wr => ∃ (ws : List ByteArray) (k : Nat), s38 = .int .i64 k ∧ k ≤ T ∧ ws.length ≤ i + 1 + 2 * (n + k) ∧ wr.ownsRow w.heap.size 9 1 s5 ws.length (ws.map strV) ∧ bsL ws ++ ((((ps.drop n).take T).drop k).flatMap (fun p => [pr p.1, pr p.2]) ++ wsP (vs.drop (i + 1)) (ps.drop (n + T))) = wsP vs ps ∧ Below w.heap.size w wr) (fun _ s38 _ => T - (intOf s38).toNat)
      case atStart => exact ⟨ws1, 0, rfl, Nat.zero_le _, HL1.out, HOWN6.out, HTW1.out, HB6.out⟩
      case round =>
        clear HOWN6 HB6 HL1 HTW1
        obtain ⟨wz, k, rfl, hk, hwl, hown, htold, hbW⟩ := hrel
        by_cases hkt : k < T
        · obtain ⟨⟨x, y⟩, hpp⟩ : ∃ p, ((ps.drop n).take T)[k]? = some p := ⟨_, List.getElem?_eq_getElem (by rw [HTL.out]; exact hkt)⟩
          have hmem : (x, y) ∈ ps := List.mem_of_mem_drop (List.mem_of_mem_take (List.mem_of_getElem? hpp))
          have hfar := far_of_path HE.out _ hmem
          have hx : -9223372036854775808 ≤ x ∧ x ≤ 9223372036854775807 := by have := hfar.1; dsimp only at this; omega
          have hy : -9223372036854775808 ≤ y ∧ y ≤ 9223372036854775807 := by have := hfar.2; dsimp only at this; omega
          obtain ⟨px, hpx⟩ : ∃ d : ByteArray, d = ⟨(pr x).toArray⟩ := ⟨_, rfl⟩
          obtain ⟨py, hpy⟩ : ∃ d : ByteArray, d = ⟨(pr y).toArray⟩ := ⟨_, rfl⟩
          have PX0 := fun w hT => print_any x w hx hT
          have PY0 := fun w hT => print_any y w hy hT
          rw [show S (pr x) = .string px by rw [hpx]; rfl] at PX0
          rw [show S (pr y) = .string py by rw [hpy]; rfl] at PY0
          have PX := Lib.hid PX0
          have PY := Lib.hid PY0
          have HTW2 := Lib.hid (show bsL (wz ++ [px, py]) ++ ((((ps.drop n).take T).drop (k + 1)).flatMap (fun p => [pr p.1, pr p.2]) ++ wsP (vs.drop (i + 1)) (ps.drop (n + T))) = wsP vs ps by
            rw [← htold, drop_at hpp, List.flatMap_cons]
            unfold bsL
            rw [List.map_append, List.append_assoc]
            congr 1
            show [px.data.toList, py.data.toList] ++ _ = _
            rw [hpx, hpy]
            simp)
          have HWL2 := Lib.hid (show (wz ++ [px, py]).length ≤ i + 1 + 2 * (n + (k + 1)) by rw [List.length_append]; simp; omega)
          obtain ⟨bd, eB, hBb, b1, b2⟩ := (HC1.out.step hbW).at_ hpp
          subst eB
          dsimp only at b1 b2
          have HOWN := Lib.hid hown
          have hlz : wz.length ≤ 8000 := by omega
          have hzr := hbW.size
          have k2 : (bd.add (k * 2)).block < wr.heap.size := by rw [block_add]; omega
          have p1 : decide ((k : Int) < (T : Int)) = true := by simp; omega
          have p2 : (0 : Int) ≤ (k : Int) := by omega
          have p3 : (k : Int) < (T : Int) := by omega
          have p5 : IntKind.i64.wrap ((k : Int) + 1) = (k : Int) + 1 := IntWalk.i64_in _ (by omega)
          clear hpp htold hwl hmem hfar PX0 PY0 hpx hpy hx hy hown
          go_upto_region 14 with fail
          refine any_gen (fun z => (z.cell? ⟨wr.heap.size, 0, none⟩ = some (.int .i64 x) ∧ z.cell? ⟨wr.heap.size, 1, none⟩ = some (.int .i64 y)) ∧ wr.heap.size < z.heap.size ∧ Below wr.heap.size wr z) ⟨⟨by simp [go_sem], by simp [go_sem]⟩, by simp [World.setCell], by repeat (first | exact Below.refl _ _ | refine below_dN ?_ _ | refine Below.setCell ?_ (by simp; try omega) _ | refine Below.alloc ?_ (by simp; try omega) _)⟩ ?_
          clear b1 b2
          rintro z ⟨⟨d0, d1⟩, hzl, hbz⟩
          have HTZ := Lib.hid (fun (W : World) (hb : Below z.heap.size z W) => (HTB.out W ((hbW.trans (hbz.mono hzr)).trans (hb.mono (by omega)))).2.1)
          have HDZ := Lib.hid (fun (W : World) (hb : Below z.heap.size z W) => (And.intro ((hb.cell (p := ⟨wr.heap.size, 0, none⟩) hzl).trans d0) ((hb.cell (p := ⟨wr.heap.size, 1, none⟩) hzl).trans d1)))
          have HOZ := Lib.hid (fun (W : World) (hb : Below z.heap.size z W) => ownsRow_after (ownsRow_after HOWN.out hbz) hb)
          have hbZ : Below w.heap.size w z := hbW.trans (hbz.mono hzr)
          have HBZ := Lib.hid hbZ
          have hzz := hbZ.size
          clear hbW hbz hbZ HOWN
          go_wp2_with fail
          go_region_law (first | (go_simp; go_at_call 18; (with_reducible refine (PX.out _ (HTZ.out _ (Below.refl _ _).drew)).mono ?_); rintro e wA ⟨rfl, hbA⟩; have hbA2 : Below z.heap.size z wA := (Below.refl _ _).drew.trans hbA; obtain ⟨y0, y1⟩ := HDZ.out _ hbA2) | (go_simp; go_at_call 18; (with_reducible refine (PY.out _ (HTZ.out _ hbA2)).mono ?_); rintro e wB ⟨rfl, hbB⟩; have hbB2 : Below z.heap.size z wB := hbA2.trans (hbB.mono hbA2.size); obtain ⟨x0, x1⟩ := HDZ.out _ hbB2; have ownB := HOZ.out _ hbB2; have hsB := hbB2.size) | (refine step_append_full (by rfl) _ _ (by rfl) w.heap.size i0 _ 1 16 und_ss8 und_ss8 ki kz0 kz1 kz2 rfl (by omega) u5 wz.length (wz.map strV) (by rfl) (ownB.alloc _) (some ⟨wB.heap.size, 0, none⟩) 2 2 [.string px, .string py] (by rfl) (by rfl) (fun j u hu => ⟨_, rfl, World.news_of_block (cs := #[.string px, .string py]) (t := 9) (fr := (0, 0)) (heap_alloc_new wB _) j u hu⟩) (by simp [Value.oneCell']) (by simp) (by simp [maxLen]; omega) (by omega) (by simp; omega) ?_; intro a7 c7 w7 ap7))
          all_goals
            have hbF : Below w.heap.size w w7 := (HBZ.out.trans ((hbB2.mono hzz).alloc (by omega) _)).trans ((Below.refl _ _).grown ap7.grew (by simp; omega) (ownsRow_ge ownB))
            have HOF := Lib.hid (show w7.ownsRow w.heap.size 9 1 (.slice a7 (wz.length + 2) c7) (wz ++ [px, py]).length ((wz ++ [px, py]).map strV) by rw [List.length_append, List.map_append]; exact ap7.row)
            clear ap7
            go_wp2
            go_roundw
            case rel => exact ⟨wz ++ [px, py], k + 1, by go_num, by omega, HWL2.out, HOF.out, HTW2.out, hbF⟩
            case measure => simp [intOf]; omega
        · have hkT : k = T := by omega
          have HTW2 := Lib.hid (show bsL wz ++ wsP (vs.drop (i + 1)) (ps.drop (n + T)) = wsP vs ps by
            rw [hkT, List.drop_of_length_le (by rw [HTL.out]; omega)] at htold
            exact htold)
          have HL2 := Lib.hid (show wz.length ≤ i + 1 + 2 * (n + T) by rw [← hkT]; exact hwl)
          have p1 : decide ((k : Int) < (T : Int)) = false := by simp; omega
          clear htold hwl
          go_wp2
          go_roundw
          case rel => exact ⟨wz, i + 1, n + T, M - T, D - T, B2, rfl, by go_num, by omega, ⟨by omega, by omega⟩, HN1.out, HL2.out, hown, HTW2.out, HC2.out, hbW⟩
          case measure => simp [intOf]; omega
    · have hiV : i = V := by omega
      have HW := Lib.hid (show bsL ws = wsP vs ps by rw [← htold, hiV, List.drop_of_length_le (by rw [HLV.out]; exact Nat.le_refl _)]; simp [wsP])
      have q1 : decide ((i : Int) < (V : Int)) = false := by simp; omega
      have hwl2 : ws.length ≤ 4000 := by omega
      have HFF := Lib.hid (show Value.string ⟨(Lib.join (ws.map (·.data.toList)) [32]).toArray⟩ = S (printE vs ps) by
        rw [HF.out, show ws.map (·.data.toList) = wsP vs ps from HW.out, join_ws]; rfl)
      have HJL := Lib.hid (show (Lib.join (ws.map (·.data.toList)) [32]).length ≤ 140737488355328 by
        rw [show ws.map (·.data.toList) = wsP vs ps from HW.out, join_ws]; have := HSZ.out; omega)
      obtain ⟨hlen, ⟨hv0, hn0⟩ | ⟨g, cap, cur, hv0, hgB, hgh, hcap, hmax, hsz, htk⟩⟩ := hown
      · subst hv0
        have hw0 : ws = [] := List.eq_nil_of_length_eq_zero hn0
        subst hw0
        have JN := Lib.hid (fun w => Tryd.strings_Join_none none 0 ⟨#[32]⟩ w)
        clear htold
        go_wp2_with fail
        refine (JN.out _).mono ?_
        rintro e w2 ⟨rfl, rfl⟩
        go_wp2
        go_ret2
        exact ⟨by rw [← HFF.out]; rfl, hbW⟩
      · subst hv0
        have hglt : g < wr.heap.size := (Array.getElem?_eq_some_iff.1 hgh).1
        have JN := Lib.hid (Tryd.strings_Join g 0 cap ws ⟨#[32]⟩ wr (fun j x hx => by
          have h1 : (ws.map strV)[j]? = some (.string x) := by rw [List.getElem?_map, hx]; rfl
          rw [← htk, List.getElem?_take] at h1
          split at h1
          · rw [Nat.zero_add]
            have h2 : cur[j]? = some (.string x) := by rw [← Array.getElem?_toList]; exact h1
            simp [World.cell?, hgh, h2]
          · cases h1) hglt (by omega) hcap HJL.out)
        clear htold htk
        go_wp2_with fail
        refine (JN.out).mono ?_
        rintro e w2 ⟨rfl, h2⟩
        go_wp2
        go_ret2
        exact ⟨by rw [← HFF.out]; rfl, hbW.trans (h2.mono hz1)⟩
end Go.Proofs.YtjjklchfcklahaaDoor
