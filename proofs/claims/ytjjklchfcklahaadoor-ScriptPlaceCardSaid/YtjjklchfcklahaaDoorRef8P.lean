/- Texts of paths, the document's own: what is printed. -/
import Derived.Test.YtjjklchfcklahaaDoorRef8
import Derived.Test.YtjjklchfcklahaaDoorScriptPt
import Derived.Test.YtjjklchfcklahaaDoorRef7B
import Derived.Deep.QuietTactic
import Derived.BigQuiet
import Derived.Test.YtjjklchfcklahaaDoorRef7D
import Derived.Test.YtjjklchfcklahaaDoorRef3C
namespace Go.Proofs.YtjjklchfcklahaaDoor
open Go.RowKit
set_option linter.unusedVariables false
set_option linter.unusedSimpArgs false
set_option maxHeartbeats 4000000
set_option maxRecDepth 100000

/-- The text of a path, if it may be. -/
def printE (vs : List Int) (ps : List Pnt) : List UInt8 := if pathE vs ps = 0 then printT vs ps else []
theorem chk_mem : ∀ (vs : List Int) (p : Int), chk p vs = 0 → ∀ v ∈ vs, v = 1 ∨ v = 5 ∨ v = 2 ∨ v = 3 ∨ v = 4
  | [], _, _, v, hv => by cases hv
  | u :: t, p, h, v, hv => by
    obtain ⟨h1, h2, h3⟩ := chk_cons h
    rcases List.mem_cons.1 hv with rfl | hv
    · exact takes_cases h1
    · exact chk_mem t u h3 v hv
theorem needs_ok : ∀ (l : List Int), (∀ v ∈ l, v = 1 ∨ v = 5 ∨ v = 2 ∨ v = 3 ∨ v = 4) → 0 ≤ needs l
  | [], _ => Int.le_refl 0
  | u :: t, h => by
    have h1 := needs_ok t (fun v hv => h v (List.mem_cons_of_mem _ hv))
    have h2 : 0 ≤ takesV u := by rcases h u (by simp) with rfl | rfl | rfl | rfl | rfl <;> decide
    show 0 ≤ takesV u + needs t
    omega
/-- What is told (t) when i verbs and n points are behind. -/
def Told (vs : List Int) (ps : List Pnt) (i n : Nat) (t : List UInt8) : Prop :=
  (i = 0 ∧ n = 0 ∧ t = []) ∨ (0 < i ∧ t ++ prS (vs.drop i) (ps.drop n) = printT vs ps)
theorem told_verb {vs : List Int} {ps : List Pnt} {i n : Nat} {t : List UInt8} {v : Int} (h : Told vs ps i n t) (hv : vs[i]? = some v) :
    (if 0 < i then t ++ [32] else t) ++ [letterB v] ++ ((ps.drop n).take (takesV v).toNat).flatMap ptT ++ prS (vs.drop (i + 1)) (ps.drop (n + (takesV v).toNat)) = printT vs ps := by
  have e : prS (vs.drop i) (ps.drop n) = 32 :: letterB v :: (((ps.drop n).take (takesV v).toNat).flatMap ptT ++ prS (vs.drop (i + 1)) (ps.drop (n + (takesV v).toNat))) := by
    rw [drop_at hv, prS, List.drop_drop]
  rcases h with ⟨rfl, rfl, rfl⟩ | ⟨h0, h⟩
  · rw [if_neg (by omega)]
    unfold printT
    rw [List.drop_zero, List.drop_zero] at e
    rw [e]
    simp
  · rw [if_pos h0, ← h, e]
    simp
theorem told_pt {ps : List Pnt} {n k T : Nat} {p : Pnt} {r : List UInt8} {t q : List UInt8} (hk : k < T) (hp : ps[n]? = some p) (h : t ++ ((ps.drop n).take (T - k)).flatMap ptT ++ r = q) :
    (t ++ [32] ++ pr p.1 ++ [32] ++ pr p.2) ++ ((ps.drop (n + 1)).take (T - (k + 1))).flatMap ptT ++ r = q := by
  rw [← h, drop_at hp, show T - k = (T - (k + 1)) + 1 by omega, List.take_succ_cons, List.flatMap_cons]
  unfold ptT
  simp
theorem told_size8 {s : ByteArray} {l q : List UInt8} {n : Nat} (h : s.data.toList ++ l = q) (hq : q.length ≤ n) : s.size ≤ n := by
  have := congrArg List.length h
  rw [List.length_append, size_list] at this
  omega

theorem r8print_any (A B : Option Addr) (cv cp : Nat) (vs : List Int) (ps : List Pnt) (w : World) (hr : Vals w w.heap.size A (vs.map iV)) (hq : Cor w w.heap.size B ps) (hl : vs.length ≤ 2000) (hp : ps.length ≤ 2000) :
    Calls Tryd.prog 10 #[PathA A vs.length cv B ps.length cp] w fun e w' => e = .returned (.tuple #[S (printE vs ps), .int .i64 (pathE vs ps)]) ∧ Below w.heap.size w w' := by
  have CK0 := fun w hr hq => r7check_any A B cv cp vs ps w hr hq (by omega) (by omega)
  have HV := Lib.hid hr
  have HP := Lib.hid hq
  obtain ⟨V, hV⟩ : ∃ V, vs.length = V := ⟨_, rfl⟩
  obtain ⟨P, hP⟩ : ∃ P, ps.length = P := ⟨_, rfl⟩
  obtain ⟨E, hE⟩ : ∃ E, pathE vs ps = E := ⟨_, rfl⟩
  rw [hV] at hl CK0
  rw [hP] at hp CK0
  rw [hV, hP, hE]
  simp only [hE] at CK0
  have CK := Lib.hid CK0
  have HLV := Lib.hid hV
  have HLP := Lib.hid hP
  have HE := Lib.hid hE
  clear hr hq hV hP hE CK0
  go_enter Tryd.func10, Tryd.ntmps10
  go_wp2_with fail
  refine (CK.out _ ((HV.out.step ((Below.refl _ _).alloc (Nat.le_refl _) _)).more (by simp)) ((HP.out.step ((Below.refl _ _).alloc (Nat.le_refl _) _)).more (by simp))).mono ?_
  rintro e w1 ⟨rfl, h1⟩
  have hs1 : w.heap.size + 1 ≤ w1.heap.size := by have := h1.size; simp at this; omega
  have c1 : w1.cell? ⟨w.heap.size, 0, none⟩ = some (.slice A V cv) := (h1.cell (p := ⟨w.heap.size, 0, none⟩) (by simp)).trans (by first | simp | simp [go_sem])
  have c2 : w1.cell? ⟨w.heap.size, 1, none⟩ = some (.slice B P cp) := (h1.cell (p := ⟨w.heap.size, 1, none⟩) (by simp)).trans (by first | simp | simp [go_sem])
  have hb0 : Below w.heap.size w w1 := ((Below.refl _ _).alloc (by simp) _).trans (h1.mono (by simp))
  clear h1
  by_cases h0 : E = 0
  · subst h0
    have HF := Lib.hid (show printE vs ps = printT vs ps by unfold printE; rw [if_pos HE.out])
    have hck := check_ok.1 HE.out
    have HCM := Lib.hid (chk_mem vs 5 hck.2.1)
    have HND := Lib.hid hck.2.2.1
    have HSZ := Lib.hid (show (printT vs ps).length ≤ 130000 by
      have h1 := prS_le vs ps (fun p hp => by
        have := far_of_path HE.out p hp
        exact ⟨by have := this.1; omega, by have := this.2; omega⟩)
      unfold printT; rw [List.length_tail]; rw [HLV.out, HLP.out] at h1; omega)
    clear hck
    go_wp2
    go_loopw [5, 6, 7] (fun s5 s6 s7 wr => ∃ (t : ByteArray) (n i : Nat), s5 = .string t ∧ s6 = .int .i64 n ∧ s7 = .int .i64 i ∧ i ≤ V ∧ Told vs ps i n t.data.toList ∧ (n : Int) + needs (vs.drop i) = P ∧ Below w1.heap.size w1 wr) (fun _ _ s7 _ => V - (intOf s7).toNat)
    case atStart => exact ⟨⟨#[]⟩, 0, 0, rfl, rfl, rfl, Nat.zero_le _, .inl ⟨rfl, rfl, rfl⟩, by simp [HND.out, HLP.out], Below.refl _ _⟩
    case round =>
      obtain ⟨t, n, i, rfl, rfl, rfl, hi, htold, hn, hbW⟩ := hrel
      have hz1 := hbW.size
      have d1 : wr.cell? ⟨w.heap.size, 0, none⟩ = some (.slice A V cv) := (hbW.cell (p := ⟨w.heap.size, 0, none⟩) (by dsimp only; omega)).trans c1
      have d2 : wr.cell? ⟨w.heap.size, 1, none⟩ = some (.slice B P cp) := (hbW.cell (p := ⟨w.heap.size, 1, none⟩) (by dsimp only; omega)).trans c2
      have hbT : Below w.heap.size w wr := hb0.trans (hbW.mono (by omega))
      by_cases hlt : i < V
      · obtain ⟨v, hv⟩ : ∃ v, vs[i]? = some v := ⟨_, List.getElem?_eq_getElem (by rw [HLV.out]; exact hlt)⟩
        have hok := HCM.out v (List.mem_of_getElem? hv)
        have hnd := needs_drop hv
        have hnn := needs_ok (vs.drop (i + 1)) (fun u hu => HCM.out u (List.mem_of_mem_drop hu))
        obtain ⟨T, hT⟩ : ∃ T : Nat, takesV v = T := ⟨(takesV v).toNat, by rcases hok with rfl | rfl | rfl | rfl | rfl <;> decide⟩
        have hTV := told_verb htold hv
        rw [hT, Int.toNat_natCast] at hTV
        have HTV := Lib.hid hTV
        have HN1 := Lib.hid (show ((n + T : Nat) : Int) + needs (vs.drop (i + 1)) = P by omega)
        have hnP : n + T ≤ P := by omega
        have HT := Lib.hid hT
        have HOK := Lib.hid hok
        have HVV := Lib.hid hv
        obtain ⟨ad, rfl, hB, g1⟩ := ints_at (HV.out.step hbT) hv
        have hBk : (ad.add i).block < w.heap.size := by rw [block_add]; exact hB
        have q1 : decide ((i : Int) < (V : Int)) = true := by simp; omega
        have q2 : (0 : Int) ≤ (i : Int) := by omega
        have q3 : (i : Int) < (V : Int) := by omega
        have ts : t.size ≤ 130000 := by
          rcases htold with ⟨_, _, h⟩ | ⟨_, h⟩
          · have : t.size = 0 := by rw [← size_list, h]; rfl
            omega
          · exact told_size8 h HSZ.out
        clear hTV hT hok hnd hnn htold hn hv
        go_upto_if 22 with (fail)
        go_cut [5] (fun s5 wx => wr = wx ∧ ∃ t1 : ByteArray, s5 = .string t1 ∧ t1.data.toList = if 0 < i then t.data.toList ++ [32] else t.data.toList)
        case first =>
          by_cases h0 : 0 < i
          · have p1 : decide (0 < i) = true := by simpa using h0
            have p2 : decide ((0 : Int) < (i : Int)) = true := by simp; omega
            have F := Lib.hid (show (t ++ (⟨#[32]⟩ : ByteArray)).data.toList = if 0 < i then t.data.toList ++ [32] else t.data.toList by rw [if_pos h0, cat_list])
            go_wp2_with fail
            go_meet
            exact ⟨rfl, _, rfl, F.out⟩
          · have p1 : decide (0 < i) = false := by simpa using h0
            have p2 : decide ((0 : Int) < (i : Int)) = false := by simp; omega
            have F := Lib.hid (show t.data.toList = if 0 < i then t.data.toList ++ [32] else t.data.toList by rw [if_neg h0])
            go_wp2_with fail
            go_meet
            exact ⟨rfl, _, rfl, F.out⟩
        case rest =>
          obtain ⟨rfl, t1, rfl, ht1⟩ := hcut
          have t1s : t1.size ≤ 130001 := by
            have e1 := size_list t1
            have e2 := size_list t
            rw [ht1] at e1
            split at e1 <;> simp at e1 <;> omega
          rw [← ht1] at HTV
          clear ht1
          go_upto_region 11 with fail
          go_cut [5] (fun s5 wx => Below wr.heap.size wr wx ∧ ∃ t2 : ByteArray, s5 = .string t2 ∧ t2.data.toList = t1.data.toList ++ [letterB v])
          case first =>
            rcases HOK.out with rfl | rfl | rfl | rfl | rfl
            all_goals
              have x0 : (⟨#[77, 76, 81, 67, 90]⟩ : ByteArray).extract 0 1 = ⟨#[77]⟩ := by rfl
              have x1 : (⟨#[77, 76, 81, 67, 90]⟩ : ByteArray).extract 1 2 = ⟨#[76]⟩ := by rfl
              have x2 : (⟨#[77, 76, 81, 67, 90]⟩ : ByteArray).extract 2 3 = ⟨#[81]⟩ := by rfl
              have x3 : (⟨#[77, 76, 81, 67, 90]⟩ : ByteArray).extract 3 4 = ⟨#[67]⟩ := by rfl
              have x4 : (⟨#[77, 76, 81, 67, 90]⟩ : ByteArray).extract 4 5 = ⟨#[90]⟩ := by rfl
              go_quiet (fail)
              go_wp2_with fail
              go_meet
              exact ⟨below_dN (Below.refl _ _) _, _, rfl, by rw [cat_list]; rfl⟩
          case rest =>
            obtain ⟨hbX, t2, rfl, ht2⟩ := hcut
            rw [← ht2] at HTV
            have hbW2 : Below w1.heap.size w1 wc := hbW.trans (hbX.mono hz1)
            have HB2 := Lib.hid hbW2
            clear ht2 hbX hbW d1 d2 g1 hbT hz1 hbW2 t1s ts
            go_wp2
            go_loopw [5, 6, 8] (fun s5 s6 s8 wr => ∃ (t : ByteArray) (m k : Nat), s5 = .string t ∧ s6 = .int .i64 m ∧ s8 = .int .i64 k ∧ k ≤ T ∧ m = n + k ∧ t.data.toList ++ ((ps.drop m).take (T - k)).flatMap ptT ++ prS (vs.drop (i + 1)) (ps.drop (n + T)) = printT vs ps ∧ Below w1.heap.size w1 wr) (fun _ _ s8 _ => T - (intOf s8).toNat)
            case atStart => exact ⟨t2, n, 0, rfl, rfl, rfl, Nat.zero_le _, rfl, HTV.out, HB2.out⟩
            case round =>
              clear HTV
              obtain ⟨t, m, k, rfl, rfl, rfl, hk, hm, htold, hbW⟩ := hrel
              have hz1 := hbW.size
              have d1 : wr.cell? ⟨w.heap.size, 0, none⟩ = some (.slice (some ad) V cv) := (hbW.cell (p := ⟨w.heap.size, 0, none⟩) (by dsimp only; omega)).trans c1
              have d2 : wr.cell? ⟨w.heap.size, 1, none⟩ = some (.slice B P cp) := (hbW.cell (p := ⟨w.heap.size, 1, none⟩) (by dsimp only; omega)).trans c2
              have hbT : Below w.heap.size w wr := hb0.trans (hbW.mono (by omega))
              obtain ⟨ad', e', -, g1⟩ := ints_at (HV.out.step hbT) HVV.out
              obtain rfl := Option.some.inj e'
              have TK0 := fun w => r7takes_any v w
              rw [HT.out] at TK0
              have TK := Lib.hid TK0
              clear TK0 e'
              by_cases hkt : k < T
              · have hmP : m < P := by omega
                obtain ⟨⟨x, y⟩, hpp⟩ : ∃ p, ps[m]? = some p := ⟨_, List.getElem?_eq_getElem (by rw [HLP.out]; exact hmP)⟩
                have hT2 := told_pt hkt hpp htold
                have hfar := far_of_path HE.out _ (List.mem_of_getElem? hpp)
                have hx : -9223372036854775808 ≤ x ∧ x ≤ 9223372036854775807 := by have := hfar.1; dsimp only at this; omega
                have hy : -9223372036854775808 ≤ y ∧ y ≤ 9223372036854775807 := by have := hfar.2; dsimp only at this; omega
                have PX0 := fun w => rprint_any x w hx
                have PY0 := fun w => rprint_any y w hy
                obtain ⟨px, hpx⟩ : ∃ d : ByteArray, d = ⟨(pr x).toArray⟩ := ⟨_, rfl⟩
                obtain ⟨py, hpy⟩ : ∃ d : ByteArray, d = ⟨(pr y).toArray⟩ := ⟨_, rfl⟩
                have lx : px.size ≤ 30 := by rw [size_of hpx]; exact pr_len x hx
                have ly : py.size ≤ 30 := by rw [size_of hpy]; exact pr_len y hy
                rw [show S (pr x) = .string px by rw [hpx]; rfl] at PX0
                rw [show S (pr y) = .string py by rw [hpy]; rfl] at PY0
                have PX := Lib.hid PX0
                have PY := Lib.hid PY0
                have F := Lib.hid (show (t ++ (⟨#[32]⟩ : ByteArray) ++ px ++ (⟨#[32]⟩ : ByteArray) ++ py).data.toList ++ ((ps.drop (m + 1)).take (T - (k + 1))).flatMap ptT ++ prS (vs.drop (i + 1)) (ps.drop (n + T)) = printT vs ps by
                  rw [← hT2]
                  simp only [cat_list, list_of hpx, list_of hpy])
                obtain ⟨bd, eB, hBb, b1, b2⟩ := (HP.out.step hbT).at_ hpp
                subst eB
                dsimp only at b1 b2
                have ts : t.size ≤ 130000 := by
                  rw [List.append_assoc] at htold
                  exact told_size8 htold HSZ.out
                have k1 : (ad.add i).block < wr.heap.size := by omega
                have k2 : (bd.add (m * 2)).block < wr.heap.size := by rw [block_add]; omega
                have k3 : w.heap.size < wr.heap.size := by omega
                have p1 : decide ((k : Int) < (T : Int)) = true := by simp; omega
                have p2 : (0 : Int) ≤ (m : Int) := by omega
                have p3 : (m : Int) < (P : Int) := by omega
                have p4 : IntKind.i64.wrap ((m : Int) + 1) = (m : Int) + 1 := IntWalk.i64_in _ (by omega)
                have p5 : IntKind.i64.wrap ((k : Int) + 1) = (k : Int) + 1 := IntWalk.i64_in _ (by omega)
                have HM := Lib.hid hm
                clear hpp hT2 hfar PX0 PY0 hpx hpy hx hy htold hm
                go_wp2_with fail
                refine (TK.out _).mono ?_
                rintro e w3 ⟨rfl, hb3⟩
                have e1 := (hb3.cell (p := ⟨w.heap.size, 0, none⟩) k3).trans d1
                have e2 := (hb3.cell (p := ⟨w.heap.size, 1, none⟩) k3).trans d2
                have e3 := (hb3.cell k2).trans b1
                have e4 := (hb3.cell (p := ⟨(bd.add (m * 2)).block, (bd.add (m * 2)).off + 1, none⟩) k2).trans b2
                have hz3 := hb3.size
                have k4 : (bd.add (m * 2)).block < w3.heap.size := by omega
                have k5 : w.heap.size < w3.heap.size := by omega
                have hb1' := hbW.trans (hb3.mono hz1)
                have z1 : (t ++ (⟨#[32]⟩ : ByteArray)).size = t.size + 1 := by rw [ByteArray.size_append]; rfl
                have z2 : (t ++ (⟨#[32]⟩ : ByteArray) ++ px).size = t.size + 1 + px.size := by rw [ByteArray.size_append, z1]
                have z3 : (t ++ (⟨#[32]⟩ : ByteArray) ++ px ++ (⟨#[32]⟩ : ByteArray)).size = t.size + 1 + px.size + 1 := by rw [ByteArray.size_append, z2]; rfl
                have A1 : ∀ w : World, (Op.stringOp .add t (⟨#[32]⟩ : ByteArray)).run Tryd.prog w = .ok (.string (t ++ (⟨#[32]⟩ : ByteArray))) w := fun w => run_string_add_sum w t (⟨#[32]⟩ : ByteArray) (by rw [show (⟨#[32]⟩ : ByteArray).size = 1 from rfl]; omega)
                have A2 : ∀ w : World, (Op.stringOp .add (t ++ (⟨#[32]⟩ : ByteArray)) px).run Tryd.prog w = .ok (.string (t ++ (⟨#[32]⟩ : ByteArray) ++ px)) w := fun w => run_string_add_sum w _ px (by rw [z1]; omega)
                have A3 : ∀ w : World, (Op.stringOp .add (t ++ (⟨#[32]⟩ : ByteArray) ++ px) (⟨#[32]⟩ : ByteArray)).run Tryd.prog w = .ok (.string (t ++ (⟨#[32]⟩ : ByteArray) ++ px ++ (⟨#[32]⟩ : ByteArray))) w := fun w => run_string_add_sum w _ (⟨#[32]⟩ : ByteArray) (by rw [z2, show (⟨#[32]⟩ : ByteArray).size = 1 from rfl]; omega)
                have A4 : ∀ w : World, (Op.stringOp .add (t ++ (⟨#[32]⟩ : ByteArray) ++ px ++ (⟨#[32]⟩ : ByteArray)) py).run Tryd.prog w = .ok (.string (t ++ (⟨#[32]⟩ : ByteArray) ++ px ++ (⟨#[32]⟩ : ByteArray) ++ py)) w := fun w => run_string_add_sum w _ py (by rw [z3]; omega)
                clear d1 d2 b1 b2 g1 hb3 z1 z2 z3
                go_upto_region 15 with fail
                go_region_held3 (fun w' => w'.cell? ⟨w.heap.size, 0, none⟩ = some (.slice (some ad) V cv) ∧ w'.cell? ⟨w.heap.size, 1, none⟩ = some (.slice (some bd) P cp) ∧ w'.cell? (bd.add (m * 2)) = some (.int .i64 x) ∧ w'.cell? ⟨(bd.add (m * 2)).block, (bd.add (m * 2)).off + 1, none⟩ = some (.int .i64 y) ∧ Below w3.heap.size w3 w') ((first | assumption | exact ⟨by simp [*], by simp [*], by simp [*], by simp [*], (Below.refl _ _).drew⟩ | exact keep4 ‹_› hb (by (try dsimp only); omega) (by (try dsimp only); omega) (by (try dsimp only); omega) (by (try dsimp only); omega) | exact keepA4 ‹_› _ (by (try dsimp only); omega) (by (try dsimp only); omega) (by (try dsimp only); omega) (by (try dsimp only); omega))) ((first | (go_at_call 15; (with_reducible refine (PX.out _).mono ?_); rintro e w' ⟨rfl, hb⟩) | (go_at_call 15; (with_reducible refine (PY.out _).mono ?_); rintro e w' ⟨rfl, hb⟩)))
                all_goals
                  have hF := belK4 ‹_ ∧ _ ∧ _ ∧ _ ∧ Below w3.heap.size w3 _›
                  go_wp2
                  go_roundw
                  case rel => exact ⟨_, m + 1, k + 1, rfl, by go_num, by go_num, by omega, by have := HM.out; omega, F.out, hb1'.trans (hF.mono (by omega))⟩
                  case measure => simp [intOf]; omega
              · have hkT : k = T := by omega
                have HT3 := Lib.hid (show Told vs ps (i + 1) m t.data.toList by
                  rw [hkT, Nat.sub_self, List.take_zero] at htold
                  refine .inr ⟨by omega, ?_⟩
                  rw [← htold, hm, hkT]; simp)
                have HM := Lib.hid (show (m : Int) + needs (vs.drop (i + 1)) = P by rw [hm, hkT]; exact HN1.out)
                have p1 : decide ((k : Int) < (T : Int)) = false := by simp; omega
                have p5 : IntKind.i64.wrap ((i : Int) + 1) = (i : Int) + 1 := IntWalk.i64_in _ (by omega)
                clear htold hm
                go_wp2_with fail
                refine (TK.out _).mono ?_
                rintro e w3 ⟨rfl, hb3⟩
                have hb1' := hbW.trans (hb3.mono hz1)
                clear hb3
                go_wp2
                go_roundw
                case rel => exact ⟨t, m, i + 1, rfl, rfl, by go_num, by omega, HT3.out, HM.out, hb1'⟩
                case measure => simp [intOf]; omega
      · have hiV : i = V := by omega
        have F := Lib.hid (show Value.string t = S (printE vs ps) by
          rw [HF.out]
          refine str_eq ?_
          rcases htold with ⟨h1, h2, h3⟩ | ⟨h1, h2⟩
          · have : vs = [] := List.eq_nil_of_length_eq_zero (by rw [HLV.out]; omega)
            rw [h3, this]; rfl
          · rw [← h2, List.drop_of_length_le (by rw [HLV.out]; omega)]; simp [prS])
        have q1 : decide ((i : Int) < (V : Int)) = false := by simp; omega
        clear htold
        go_wp2
        go_ret2
        exact ⟨by rw [← F.out]; rfl, hbT⟩
  · have HF := Lib.hid (show S (printE vs ps) = .string ⟨#[]⟩ by unfold printE; rw [HE.out, if_neg h0]; rfl)
    have q1 : (E != 0) = true := by simpa using h0
    have q2 : (E == 0) = false := by simpa using h0
    clear h0
    go_wp2
    go_ret2
    exact ⟨by rw [HF.out]; rfl, hb0⟩
end Go.Proofs.YtjjklchfcklahaaDoor
