/- The walk of PathJoins: subpaths that are joined, a path that is shifted; dots and ends. -/
import Derived.Test.YtalgmnnimfenpaaDoorPin7
import Derived.Test.YtalgmnnimfenpaaDoorChainNum
import Derived.Test.YtalgmnnimfenpaaDoorCorn
import Derived.Test.YtalgmnnimfenpaaDoorMoreB
namespace Go.Proofs.YtalgmnnimfenpaaDoor
open Go.RowKit
set_option linter.unusedVariables false
set_option linter.unusedSimpArgs false
set_option maxHeartbeats 16000000
set_option maxRecDepth 100000

theorem flat_le {α β : Type} (f : α → List β) (k : Nat) : ∀ l : List α, (∀ x ∈ l, (f x).length ≤ k) → (l.flatMap f).length ≤ k * l.length
  | [], _ => by simp
  | x :: t, h => by
    have h1 := flat_le f k t (fun y hy => h y (by simp [hy]))
    have h2 := h x (by simp)
    rw [List.flatMap_cons, List.length_append, List.length_cons, Nat.mul_succ]
    omega
theorem join_short {l : List SubV} (hl : l.length ≤ 20) (h : ∀ x ∈ l, x.2.1.length ≤ 20) : (joinVs l).length ≤ 440 := by
  have : ∀ x ∈ l, (subVs x).length ≤ 22 := fun x hx => by
    have h1 := h x hx
    have h2 := flat_le segVs 1 x.2.1 (fun g _ => segVs_len g)
    unfold subVs
    rw [List.length_cons, List.length_append]
    have h3 : (if x.2.2 then [(5 : Int)] else []).length ≤ 1 := by split <;> simp
    omega
  have := flat_le subVs 22 l this
  unfold joinVs
  omega
theorem near_all {ps : List Pnt} (h : ∀ p ∈ ps, nearB p.1 p.2 = true) : ∀ p ∈ ps, (-1073741824 ≤ p.1 ∧ p.1 ≤ 1073741824) ∧ (-1073741824 ≤ p.2 ∧ p.2 ≤ 1073741824) := fun p hp => nearB_iff.1 (h p hp)
theorem joins7_many (A0 : Option Addr) (k0 : Nat) (l : List SubV) (A B : Option Addr) (cv cp : Nat) (vs : List Int) (ps : List Pnt) (bx bz : Int) (w : World) (hl : l.length ≤ 9223372036854775807) (hsb : Subs w w.heap.size A0 l) (hsl : ∀ x ∈ l, x.2.1.length ≤ 9223372036854775807) (hin : PathIn w A B cv cp vs ps) (h : 20 < l.length) :
    Calls Tryd.prog 4 #[.slice A0 l.length k0, PathA A vs.length cv B ps.length cp, P2 bx bz] w fun e w' => e = .returned (.bool true) ∧ Below w.heap.size w w' := by
  have HTB := Lib.hid (fun (x : World) (hb : Below w.heap.size w x) => hin.tb.step hb)
  obtain ⟨n, hn⟩ : ∃ n, vs.length = n := ⟨_, rfl⟩
  obtain ⟨m, hm⟩ : ∃ m, ps.length = m := ⟨_, rfl⟩
  obtain ⟨N, hN⟩ : ∃ N, l.length = N := ⟨_, rfl⟩
  rw [hN] at h hl ⊢
  rw [hn, hm]
  have q1 : decide ((N : Int) > 20) = true := by simp; omega
  have q2 : decide (20 < (N : Int)) = true := by simp; omega
  have q3 : decide (20 < N) = true := by simp; omega
  clear hn hm hN hin hsb hsl
  go_enter Tryd.func4, Tryd.ntmps4
  go_wp2_with fail
  refine (shown7_any _ (HTB.out _ (((Below.refl _ w).alloc (Nat.le_refl _) _).alloc (by simp) _))).mono ?_
  rintro e w2 ⟨rfl, h2⟩
  go_wp2
  go_ret
  exact ⟨rfl, (((Below.refl _ w).alloc (Nat.le_refl _) _).alloc (by simp) _).trans (h2.mono (by simp; omega))⟩
theorem joins7_far (A0 : Option Addr) (k0 : Nat) (l : List SubV) (A B : Option Addr) (cv cp : Nat) (vs : List Int) (ps : List Pnt) (bx bz : Int) (w : World) (hl : l.length ≤ 9223372036854775807) (hsb : Subs w w.heap.size A0 l) (hsl : ∀ x ∈ l, x.2.1.length ≤ 9223372036854775807) (hin : PathIn w A B cv cp vs ps) (hf : l.length ≤ 20) (h : bnd7 vs.length ps.length = false) :
    Calls Tryd.prog 4 #[.slice A0 l.length k0, PathA A vs.length cv B ps.length cp, P2 bx bz] w fun e w' => e = .returned (.bool true) ∧ Below w.heap.size w w' := by
  have HTB := Lib.hid (fun (x : World) (hb : Below w.heap.size w x) => hin.tb.step hb)
  obtain ⟨n, hn⟩ : ∃ n, vs.length = n := ⟨_, rfl⟩
  obtain ⟨m, hm⟩ : ∃ m, ps.length = m := ⟨_, rfl⟩
  obtain ⟨N, hN⟩ : ∃ N, l.length = N := ⟨_, rfl⟩
  rw [hN] at hf hl ⊢
  rw [hn, hm] at h ⊢
  have q1 : decide ((N : Int) > 20) = false := by simp; omega
  have q2 : decide (20 < (N : Int)) = false := by simp; omega
  have q3 : decide (20 < N) = false := by simp; omega
  have HB := Lib.hid h
  clear h hn hm hN hin hsb hsl
  go_enter Tryd.func4, Tryd.ntmps4
  go_wp2_with fail
  refine (bounded7_any A B n cv m cp _).mono ?_
  rintro e w1 ⟨rfl, h1⟩
  rw [HB.out]
  have z1 := h1.size
  simp at z1
  have c1 : w1.cell? ⟨w.heap.size, 0, none⟩ = some (.slice A n cv) := (h1.cell (p := ⟨w.heap.size, 0, none⟩) (by simp; (try omega))).trans (by simp)
  have c2 : w1.cell? ⟨w.heap.size, 1, none⟩ = some (.slice B m cp) := (h1.cell (p := ⟨w.heap.size, 1, none⟩) (by simp; (try omega))).trans (by simp)
  have c3 : w1.cell? ⟨w.heap.size + 1, 0, none⟩ = some (.int .i64 bx) := (h1.cell (p := ⟨w.heap.size + 1, 0, none⟩) (by simp; (try omega))).trans (by simp)
  have c4 : w1.cell? ⟨w.heap.size + 1, 1, none⟩ = some (.int .i64 bz) := (h1.cell (p := ⟨w.heap.size + 1, 1, none⟩) (by simp; (try omega))).trans (by simp)
  have hb : Below w.heap.size w w1 := (((Below.refl _ w).alloc (Nat.le_refl _) _).alloc (by simp) _).trans (h1.mono (by simp; omega))
  clear h1
  go_wp2_with fail
  refine (shown7_any _ (HTB.out _ hb)).mono ?_
  rintro e w2 ⟨rfl, h2⟩
  go_wp2
  go_ret
  exact ⟨rfl, hb.trans (h2.mono hb.size)⟩
theorem joins7_far2 (A0 : Option Addr) (k0 : Nat) (l : List SubV) (A B : Option Addr) (cv cp : Nat) (vs : List Int) (ps : List Pnt) (bx bz : Int) (w : World) (hl : l.length ≤ 9223372036854775807) (hsb : Subs w w.heap.size A0 l) (hsl : ∀ x ∈ l, x.2.1.length ≤ 9223372036854775807) (hin : PathIn w A B cv cp vs ps) (hf : l.length ≤ 20) (h : bnd7 vs.length ps.length = true) (h2 : nearB bx bz = false) :
    Calls Tryd.prog 4 #[.slice A0 l.length k0, PathA A vs.length cv B ps.length cp, P2 bx bz] w fun e w' => e = .returned (.bool true) ∧ Below w.heap.size w w' := by
  have HTB := Lib.hid (fun (x : World) (hb : Below w.heap.size w x) => hin.tb.step hb)
  obtain ⟨n, hn⟩ : ∃ n, vs.length = n := ⟨_, rfl⟩
  obtain ⟨m, hm⟩ : ∃ m, ps.length = m := ⟨_, rfl⟩
  obtain ⟨N, hN⟩ : ∃ N, l.length = N := ⟨_, rfl⟩
  rw [hN] at hf hl ⊢
  rw [hn, hm] at h ⊢
  have q1 : decide ((N : Int) > 20) = false := by simp; omega
  have q2 : decide (20 < (N : Int)) = false := by simp; omega
  have q3 : decide (20 < N) = false := by simp; omega
  have HB := Lib.hid h
  have HNR := Lib.hid h2
  clear h2
  clear h hn hm hN hin hsb hsl
  go_enter Tryd.func4, Tryd.ntmps4
  go_wp2_with fail
  refine (bounded7_any A B n cv m cp _).mono ?_
  rintro e w1 ⟨rfl, h1⟩
  rw [HB.out]
  have z1 := h1.size
  simp at z1
  have c1 : w1.cell? ⟨w.heap.size, 0, none⟩ = some (.slice A n cv) := (h1.cell (p := ⟨w.heap.size, 0, none⟩) (by simp; (try omega))).trans (by simp)
  have c2 : w1.cell? ⟨w.heap.size, 1, none⟩ = some (.slice B m cp) := (h1.cell (p := ⟨w.heap.size, 1, none⟩) (by simp; (try omega))).trans (by simp)
  have c3 : w1.cell? ⟨w.heap.size + 1, 0, none⟩ = some (.int .i64 bx) := (h1.cell (p := ⟨w.heap.size + 1, 0, none⟩) (by simp; (try omega))).trans (by simp)
  have c4 : w1.cell? ⟨w.heap.size + 1, 1, none⟩ = some (.int .i64 bz) := (h1.cell (p := ⟨w.heap.size + 1, 1, none⟩) (by simp; (try omega))).trans (by simp)
  have hb : Below w.heap.size w w1 := (((Below.refl _ w).alloc (Nat.le_refl _) _).alloc (by simp) _).trans (h1.mono (by simp; omega))
  clear h1
  go_wp2_with fail
  refine (r4near_any bx bz _).mono ?_
  rintro e w2 ⟨rfl, h2⟩
  rw [HNR.out]
  replace c1 := (h2.cell (by (try dsimp only); omega)).trans c1
  replace c2 := (h2.cell (by (try dsimp only); omega)).trans c2
  replace c3 := (h2.cell (by (try dsimp only); omega)).trans c3
  replace c4 := (h2.cell (by (try dsimp only); omega)).trans c4
  replace hb := hb.trans (h2.mono hb.size)
  have z2 := h2.size
  clear h2
  go_wp2_with fail
  refine (shown7_any _ (HTB.out _ hb)).mono ?_
  rintro e w3 ⟨rfl, h3⟩
  go_wp2
  go_ret
  exact ⟨rfl, hb.trans (h3.mono hb.size)⟩
theorem joins7_main (A0 : Option Addr) (k0 : Nat) (l : List SubV) (A B : Option Addr) (cv cp : Nat) (vs : List Int) (ps : List Pnt) (bx bz : Int) (w : World) (hl : l.length ≤ 9223372036854775807) (hsb : Subs w w.heap.size A0 l) (hsl : ∀ x ∈ l, x.2.1.length ≤ 9223372036854775807) (hin : PathIn w A B cv cp vs ps) (hf : l.length ≤ 20) (h : bnd7 vs.length ps.length = true) (h2 : nearB bx bz = true) :
    Calls Tryd.prog 4 #[.slice A0 l.length k0, PathA A vs.length cv B ps.length cp, P2 bx bz] w fun e w' => e = .returned (.bool true) ∧ Below w.heap.size w w' := by
  have HTB := Lib.hid (fun (x : World) (hb : Below w.heap.size w x) => hin.tb.step hb)
  obtain ⟨b1, b2⟩ := bnd_ok h
  obtain ⟨nr1, nr2⟩ := nearB_iff.1 h2
  have HIN := Lib.hid hin
  have HSB := Lib.hid hsb
  have HSL := Lib.hid hsl
  obtain ⟨n, hn⟩ : ∃ n, vs.length = n := ⟨_, rfl⟩
  obtain ⟨m, hm⟩ : ∃ m, ps.length = m := ⟨_, rfl⟩
  obtain ⟨N, hN⟩ : ∃ N, l.length = N := ⟨_, rfl⟩
  have HL := Lib.hid hN
  have HMP := Lib.hid hm
  have HVN := Lib.hid hn
  have NR := Lib.hid (And.intro nr1 nr2)
  rw [hN] at hf hl ⊢
  rw [hn, hm] at h ⊢
  rw [hn] at b1
  rw [hm] at b2
  have q1 : decide ((N : Int) > 20) = false := by simp; omega
  have q2 : decide (20 < (N : Int)) = false := by simp; omega
  have q3 : decide (20 < N) = false := by simp; omega
  have HB := Lib.hid h
  have HNR := Lib.hid h2
  clear h2
  clear h hn hm hN hin hsb hsl
  go_enter Tryd.func4, Tryd.ntmps4
  go_wp2_with fail
  refine (bounded7_any A B n cv m cp _).mono ?_
  rintro e w1 ⟨rfl, h1⟩
  rw [HB.out]
  have z1 := h1.size
  simp at z1
  have c1 : w1.cell? ⟨w.heap.size, 0, none⟩ = some (.slice A n cv) := (h1.cell (p := ⟨w.heap.size, 0, none⟩) (by simp; (try omega))).trans (by simp)
  have c2 : w1.cell? ⟨w.heap.size, 1, none⟩ = some (.slice B m cp) := (h1.cell (p := ⟨w.heap.size, 1, none⟩) (by simp; (try omega))).trans (by simp)
  have c3 : w1.cell? ⟨w.heap.size + 1, 0, none⟩ = some (.int .i64 bx) := (h1.cell (p := ⟨w.heap.size + 1, 0, none⟩) (by simp; (try omega))).trans (by simp)
  have c4 : w1.cell? ⟨w.heap.size + 1, 1, none⟩ = some (.int .i64 bz) := (h1.cell (p := ⟨w.heap.size + 1, 1, none⟩) (by simp; (try omega))).trans (by simp)
  have hb : Below w.heap.size w w1 := (((Below.refl _ w).alloc (Nat.le_refl _) _).alloc (by simp) _).trans (h1.mono (by simp; omega))
  clear h1
  go_wp2_with fail
  refine (r4near_any bx bz _).mono ?_
  rintro e w2 ⟨rfl, h2⟩
  rw [HNR.out]
  replace c1 := (h2.cell (by (try dsimp only); omega)).trans c1
  replace c2 := (h2.cell (by (try dsimp only); omega)).trans c2
  replace c3 := (h2.cell (by (try dsimp only); omega)).trans c3
  replace c4 := (h2.cell (by (try dsimp only); omega)).trans c4
  replace hb := hb.trans (h2.mono hb.size)
  have z2 := h2.size
  clear h2
  go_wp2_with fail
  refine (shown7_any _ (HTB.out _ hb)).mono ?_
  rintro e w3 ⟨rfl, h3⟩
  replace c1 := (h3.cell (by (try dsimp only); omega)).trans c1
  replace c2 := (h3.cell (by (try dsimp only); omega)).trans c2
  replace c3 := (h3.cell (by (try dsimp only); omega)).trans c3
  replace c4 := (h3.cell (by (try dsimp only); omega)).trans c4
  replace hb := hb.trans (h3.mono hb.size)
  have z3 := h3.size
  have HS := Lib.hid (HSB.out.calls hb)
  clear h3
  go_wp2
  go_loopw [7] (fun s7 wr => ∃ i : Nat, s7 = .int .i64 i ∧ i ≤ N ∧ (∀ (j : Nat) (x : SubV), l[j]? = some x → j < i → x.2.1.length ≤ 20) ∧ Below w3.heap.size w3 wr) (fun s7 _ => N - (intOf s7).toNat)
  case atStart => exact ⟨0, rfl, Nat.zero_le _, fun j x _ h => absurd h (Nat.not_lt_zero _), Below.refl _ _⟩
  case round =>
    obtain ⟨i, rfl, hi, hsh, hbr⟩ := hrel
    have HSH := Lib.hid hsh
    clear hsh
    obtain ⟨wo, hwo⟩ : ∃ wo : World, wo = wr := ⟨_, rfl⟩
    subst hwo
    have hs1 := hbr.size
    have hzz := hb.size
    by_cases hlt : i < N
    · obtain ⟨⟨⟨sx, sy⟩, sg, cl⟩, hv⟩ : ∃ v, l[i]? = some v := ⟨_, List.getElem?_eq_getElem (by rw [HL.out]; exact hlt)⟩
      obtain ⟨ad, rfl, hB, e0, e1, ⟨Ag, cg, e2, hsg⟩, e3⟩ := (HS.out.step hbr).at_ hv
      have hm := HSL.out _ (List.mem_of_getElem? hv)
      dsimp only [nx] at e2 hsg hm
      have HSGM := Lib.hid hsg
      have HV := Lib.hid hv
      obtain ⟨M, hmm⟩ : ∃ m, sg.length = m := ⟨_, rfl⟩
      rw [hmm] at e2 hm
      have HM := Lib.hid hmm
      have hBa : (ad.add (i * 4)).block < w3.heap.size := by rw [block_add]; exact hB
      have p1 : decide ((i : Int) < (N : Int)) = true := by simp; omega
      have p2 : (0 : Int) ≤ (i : Int) := by omega
      have p3 : (i : Int) < (N : Int) := by omega
      have p4 : IntKind.i64.wrap ((i : Int) + 1) = (i : Int) + 1 := IntWalk.i64_in _ (by omega)
      clear e0 e1 e3 hsg hmm hv
      by_cases hmany : 20 < M
      · have p5 : decide ((M : Int) > 20) = true := by simp; omega
        have p6 : decide (20 < (M : Int)) = true := by simp; omega
        have p7 : decide (20 < M) = true := by simp; omega
        have hbx := hb.trans (hbr.mono hb.size)
        skip
        go_wp2_with fail
        refine (shown7_any _ (HTB.out _ hbx)).mono ?_
        rintro e w4 ⟨rfl, h4⟩
        go_wp2
        go_ret
        exact ⟨rfl, hbx.trans (h4.mono hbx.size)⟩
      · have p5 : decide ((M : Int) > 20) = false := by simp; omega
        have p6 : decide (20 < (M : Int)) = false := by simp; omega
        have p7 : decide (20 < M) = false := by simp; omega
        go_wp2
        go_loopw [8] (fun s8 wx => ∃ j : Nat, s8 = .int .i64 j ∧ j ≤ M ∧ Below wo.heap.size wo wx) (fun s8 _ => M - (intOf s8).toNat)
        case atStart => exact ⟨0, rfl, Nat.zero_le _, Below.refl _ _⟩
        case round =>
          clear p5 p6 p7
          obtain ⟨j, rfl, hj, hbx⟩ := hrel
          obtain ⟨wi, hwi⟩ : ∃ wi : World, wi = wr := ⟨_, rfl⟩
          subst hwi
          have hs2 := hbx.size
          have g2 := (hbx.cell (p := ⟨(ad.add (i * 4)).block, (ad.add (i * 4)).off + 2, none⟩) (by (try dsimp only); omega)).trans e2
          by_cases hjt : j < M
          · obtain ⟨⟨⟨⟨ga, gb⟩, ⟨gc, gd⟩, ⟨ge, gf⟩, ⟨gg, gh⟩⟩, gn⟩, hv⟩ : ∃ v, sg[j]? = some v := ⟨_, List.getElem?_eq_getElem (by rw [HM.out]; exact hjt)⟩
            obtain ⟨ag, rfl, hBg, t0, t1, t2, t3, t4, t5, t6, t7, t8⟩ := (HSGM.out.step (hbx.mono hs1)).at_ hv
            dsimp only [nx] at t0 t1 t2 t3 t4 t5 t6 t7 t8
            have p5 : decide ((j : Int) < (M : Int)) = true := by simp; omega
            have p6 : (0 : Int) ≤ (j : Int) := by omega
            have p7 : (j : Int) < (M : Int) := by omega
            have p8 : IntKind.i64.wrap ((j : Int) + 1) = (j : Int) + 1 := IntWalk.i64_in _ (by omega)
            have D10 := fun w => q7dot_any ga gb gc gd ge gf gg gh gn w
            have D20 := fun w => r7dot_any ga gb gc gd ge gf gg gh gn w
            have E10 := fun w => q7end_any ga gb gc gd ge gf gg gh gn w
            have E20 := fun w => r7end_any ga gb gc gd ge gf gg gh gn w
            obtain ⟨dv, hdv⟩ : ∃ d, dotV (((ga, gb), (gc, gd), (ge, gf), (gg, gh)), gn) = d := ⟨_, rfl⟩
            obtain ⟨⟨ux, uy⟩, hu⟩ : ∃ u, endV (((ga, gb), (gc, gd), (ge, gf), (gg, gh)), gn) = u := ⟨_, rfl⟩
            simp only [hdv] at D10 D20
            simp only [hu] at E10 E20
            have D1 := Lib.hid D10
            have D2 := Lib.hid D20
            have E1 := Lib.hid E10
            have E2 := Lib.hid E20
            clear D10 D20 E10 E20 hdv hu hv
            have q4 : (dv != dv) = false := by simp
            have NE := fun w => (show (binOp .neq 44 (P2 ux uy) (P2 ux uy)).run Tryd.prog w = .ok (.bool false) w from ne_pt7 _ _ _ _ true (decide_eq_true rfl) w)
            go_upto_region 12 with fail
            refine any_gen (fun z => (z.cell? ⟨wi.heap.size, 0, none⟩ = some (.int .i64 ga) ∧ z.cell? ⟨wi.heap.size, 1, none⟩ = some (.int .i64 gb) ∧ z.cell? ⟨wi.heap.size, 2, none⟩ = some (.int .i64 gc) ∧ z.cell? ⟨wi.heap.size, 3, none⟩ = some (.int .i64 gd) ∧ z.cell? ⟨wi.heap.size, 4, none⟩ = some (.int .i64 ge) ∧ z.cell? ⟨wi.heap.size, 5, none⟩ = some (.int .i64 gf) ∧ z.cell? ⟨wi.heap.size, 6, none⟩ = some (.int .i64 gg) ∧ z.cell? ⟨wi.heap.size, 7, none⟩ = some (.int .i64 gh) ∧ z.cell? ⟨wi.heap.size, 8, none⟩ = some (.int .i64 gn)) ∧ wi.heap.size + 1 ≤ z.heap.size ∧ Below wi.heap.size wi z) ⟨⟨by simp [go_sem], by simp [go_sem], by simp [go_sem], by simp [go_sem], by simp [go_sem], by simp [go_sem], by simp [go_sem], by simp [go_sem], by simp [go_sem]⟩, by simp, (Below.refl _ _).alloc (Nat.le_refl _) _⟩ ?_
            clear t0 t1 t2 t3 t4 t5 t6 t7 t8 g2
            rintro w4 ⟨⟨a0, a1, a2, a3, a4, a5, a6, a7, a8⟩, hz4, hb4⟩
            go_region_held3 (fun w' => w'.cell? ⟨wi.heap.size, 0, none⟩ = some (.int .i64 ga) ∧ w'.cell? ⟨wi.heap.size, 1, none⟩ = some (.int .i64 gb) ∧ w'.cell? ⟨wi.heap.size, 2, none⟩ = some (.int .i64 gc) ∧ w'.cell? ⟨wi.heap.size, 3, none⟩ = some (.int .i64 gd) ∧ w'.cell? ⟨wi.heap.size, 4, none⟩ = some (.int .i64 ge) ∧ w'.cell? ⟨wi.heap.size, 5, none⟩ = some (.int .i64 gf) ∧ w'.cell? ⟨wi.heap.size, 6, none⟩ = some (.int .i64 gg) ∧ w'.cell? ⟨wi.heap.size, 7, none⟩ = some (.int .i64 gh) ∧ w'.cell? ⟨wi.heap.size, 8, none⟩ = some (.int .i64 gn) ∧ Below w4.heap.size w4 w') ((first | assumption | exact ⟨by simp [*], by simp [*], by simp [*], by simp [*], by simp [*], by simp [*], by simp [*], by simp [*], by simp [*], (Below.refl _ _).drew⟩ | exact keep9 ‹_› hb (by (try dsimp only); omega) (by (try dsimp only); omega) (by (try dsimp only); omega) (by (try dsimp only); omega) (by (try dsimp only); omega) (by (try dsimp only); omega) (by (try dsimp only); omega) (by (try dsimp only); omega) (by (try dsimp only); omega) | exact keepA9 ‹_› _ (by (try dsimp only); omega) (by (try dsimp only); omega) (by (try dsimp only); omega) (by (try dsimp only); omega) (by (try dsimp only); omega) (by (try dsimp only); omega) (by (try dsimp only); omega) (by (try dsimp only); omega) (by (try dsimp only); omega) | exact keepS9 (keepS9 ‹_› _ _ (by (try dsimp only); omega) (by (try dsimp only); omega) (by (try dsimp only); omega) (by (try dsimp only); omega) (by (try dsimp only); omega) (by (try dsimp only); omega) (by (try dsimp only); omega) (by (try dsimp only); omega) (by (try dsimp only); omega) (by (try dsimp only); omega)) _ _ (by (try dsimp only); omega) (by (try dsimp only); omega) (by (try dsimp only); omega) (by (try dsimp only); omega) (by (try dsimp only); omega) (by (try dsimp only); omega) (by (try dsimp only); omega) (by (try dsimp only); omega) (by (try dsimp only); omega) (by (try dsimp only); omega))) ((first | (go_at_call 21; with_reducible refine (D1.out _).mono ?_; rintro e w' ⟨rfl, hb⟩) | (go_at_call 22; with_reducible refine (D2.out _).mono ?_; rintro e w' ⟨rfl, hb⟩) | (go_at_call 23; with_reducible refine (E1.out _).mono ?_; rintro e w' ⟨rfl, hb⟩) | (go_at_call 24; with_reducible refine (E2.out _).mono ?_; rintro e w' ⟨rfl, hb⟩)))
            have hF := belK9 ‹_ ∧ _ ∧ _ ∧ _ ∧ _ ∧ _ ∧ _ ∧ _ ∧ _ ∧ Below w4.heap.size w4 _›
            have hbE := hbx.trans ((hb4.trans (hF.mono (by omega))).mono hs2)
            go_wp2
            go_roundw
            case rel => exact ⟨j + 1, by go_num, by omega, hbE⟩
            case measure => simp [intOf]; omega
          · have hbE := hbr.trans (hbx.mono hbr.size)
            have p5 : decide ((j : Int) < (M : Int)) = false := by simp; omega
            have p6 : ¬ (j : Int) < (M : Int) := by omega
            go_wp2
            go_roundw
            case rel => exact ⟨i + 1, by go_num, by omega, fun jj x hx hjj => by
              rcases Nat.lt_or_ge jj i with h | h
              · exact HSH.out jj x hx h
              · obtain rfl : jj = i := by omega
                have hx2 := HV.out
                rw [hx] at hx2
                obtain rfl := Option.some.inj hx2
                have hM := HM.out
                dsimp only
                omega, hbE⟩
            case measure => simp [intOf]; omega
    · obtain rfl : i = N := by omega
      have p1 : decide ((i : Int) < (i : Int)) = false := by simp
      have hb5 := hb.trans (hbr.mono hb.size)
      have d1 := (hbr.cell (by (try dsimp only); omega)).trans c1
      have d2 := (hbr.cell (by (try dsimp only); omega)).trans c2
      have d3 := (hbr.cell (by (try dsimp only); omega)).trans c3
      have d4 := (hbr.cell (by (try dsimp only); omega)).trans c4
      have HIN5 := Lib.hid (HIN.out.calls hb5)
      have HS5 := Lib.hid ((HS.out.step hbr).more hbr.size)
      have hsh2 : ∀ x ∈ l, x.2.1.length ≤ 20 := fun x hx => by
        obtain ⟨j, hj⟩ := List.getElem?_of_mem hx
        exact HSH.out j x hj (by have := (List.getElem?_eq_some_iff.1 hj).1; have := HL.out; omega)
      have HSH2 := Lib.hid hsh2
      clear hsh2 HSH hb c1 c2 c3 c4 hbr
      have hz5 := hb5.size
      go_wp2
      go_loopw [10] (fun s10 wx => ∃ k : Nat, s10 = .int .i64 k ∧ k ≤ m ∧ (∀ p ∈ ps.take k, nearB p.1 p.2 = true) ∧ Below wo.heap.size wo wx) (fun s10 _ => m - (intOf s10).toNat)
      case atStart => exact ⟨0, rfl, Nat.zero_le _, (fun p hp => by simp at hp), Below.refl _ _⟩
      case round =>
        clear p1
        obtain ⟨k, rfl, hk, hnr, hbx⟩ := hrel
        have HNA := Lib.hid hnr
        clear hnr
        obtain ⟨wi, hwi⟩ : ∃ wi : World, wi = wr := ⟨_, rfl⟩
        subst hwi
        have hs2 := hbx.size
        have f1 := (hbx.cell (by (try dsimp only); omega)).trans d1
        have f2 := (hbx.cell (by (try dsimp only); omega)).trans d2
        by_cases hkt : k < m
        · obtain ⟨⟨px, py⟩, hp⟩ : ∃ p, ps[k]? = some p := ⟨_, List.getElem?_eq_getElem (by rw [HMP.out]; exact hkt)⟩
          obtain ⟨ap, rfl, hBp, g1, g2⟩ := (HIN5.out.rp.step hbx).at_ hp
          dsimp only at g1 g2
          have HP := Lib.hid hp
          clear hp
          have p5 : decide ((k : Int) < (m : Int)) = true := by simp; omega
          have p6 : (0 : Int) ≤ (k : Int) := by omega
          have p7 : (k : Int) < (m : Int) := by omega
          have p8 : IntKind.i64.wrap ((k : Int) + 1) = (k : Int) + 1 := IntWalk.i64_in _ (by omega)
          go_wp2_with fail
          refine (r4near_any px py _).mono ?_
          rintro e w6 ⟨rfl, h6⟩
          have hbE := hbx.trans (h6.mono hs2)
          clear h6 g1 g2
          cases hnb : nearB px py
          · clear hnb
            go_wp2
            go_ret
            exact ⟨rfl, hb5.trans (hbE.mono hb5.size)⟩
          · have HNB := Lib.hid hnb
            clear hnb
            go_wp2
            go_roundw
            case rel => exact ⟨k + 1, by go_num, by omega, fun p hp => by
              rw [List.take_succ_eq_append_getElem (List.getElem?_eq_some_iff.1 HP.out).1] at hp
              rcases List.mem_append.1 hp with h | h
              · exact HNA.out p h
              · rw [List.mem_singleton, (List.getElem?_eq_some_iff.1 HP.out).2] at h; subst h; exact HNB.out, hbE⟩
            case measure => simp [intOf]; omega
        · obtain rfl : k = m := by omega
          have p5 : decide ((k : Int) < (k : Int)) = false := by simp
          have hnear : ∀ p ∈ ps, nearB p.1 p.2 = true := by have := HNA.out; rw [← HMP.out, List.take_length] at this; exact this
          have hnear2 := near_all hnear
          have f3 := (hbx.cell (by (try dsimp only); omega)).trans d3
          have f4 := (hbx.cell (by (try dsimp only); omega)).trans d4
          have hjl := join_short (by rw [HL.out]; omega) HSH2.out
          have hjp := joinPs_le l
          obtain ⟨J, hJ⟩ : ∃ J, (joinVs l).length = J := ⟨_, rfl⟩
          obtain ⟨Q, hQ⟩ : ∃ Q, (joinPs l).length = Q := ⟨_, rfl⟩
          have JN := Lib.hid (show ∀ w, Subs w w.heap.size A0 l → Calls Tryd.prog 26 #[.slice A0 i k0] w fun e w' => ∃ A' c' B' d', e = .returned (PathA A' J c' B' Q d') ∧ Vals w' w'.heap.size A' ((joinVs l).map iV) ∧ Cor w' w'.heap.size B' (joinPs l) ∧ Below w.heap.size w w' from fun w hs => by
            have := q7join_any A0 k0 l w hs (by rw [HL.out]; omega) (fun x hx => by have := HSH2.out x hx; omega) (by omega) (by omega)
            rw [hJ, hQ, HL.out] at this
            refine this.mono ?_
            rintro e w' ⟨a, c, b, d, h1, h2, h3, _, h4⟩
            exact ⟨a, c, b, d, h1, h2, h3, h4⟩)
          have RJ := Lib.hid (show ∀ A c w, Subs w w.heap.size A l → Calls Tryd.prog 27 #[.slice A i c] w fun e w' => ∃ A' c' B' d', e = .returned (PathA A' J c' B' Q d') ∧ Vals w' w'.heap.size A' ((joinVs l).map iV) ∧ Cor w' w'.heap.size B' (joinPs l) ∧ Below w.heap.size w w' from fun A c w hs => by
            have := r7join_any A c l w hs (by rw [HL.out]; omega) (fun x hx => by have := HSH2.out x hx; omega) (by omega) (by omega)
            rw [hJ, hQ, HL.out] at this
            exact this)
          have SBS := Lib.hid (show ∀ w, Subs w w.heap.size A0 l → Calls Tryd.prog 19 #[.slice A0 i k0] w fun e w' => ∃ A' c', e = .returned (.slice A' i c') ∧ Subs w' w'.heap.size A' l ∧ Below w.heap.size w w' from fun w hs => by
            have := subs7_any A0 k0 l w hs (by rw [HL.out]; omega) (fun x hx => by have := HSH2.out x hx; omega)
            rw [HL.out] at this
            exact this)
          have SAM := Lib.hid (show ∀ A B A' B' ca cb ca' cb' w, Vals w w.heap.size A ((joinVs l).map iV) → Cor w w.heap.size B (joinPs l) → Vals w w.heap.size A' ((joinVs l).map iV) → Cor w w.heap.size B' (joinPs l) → Calls Tryd.prog 25 #[PathA A J ca B Q cb, PathA A' J ca' B' Q cb'] w fun e w' => e = .returned (.bool true) ∧ Below w.heap.size w w' from fun A B A' B' ca cb ca' cb' w h1 h2 h3 h4 => by
            have := r7same_any A B A' B' ca cb ca' cb' _ _ _ _ w h1 h2 h3 h4 (by omega) (by omega)
            rw [hJ, hQ, decide_eq_true ⟨rfl, rfl⟩] at this
            exact this)
          have SAN := Lib.hid (show ∀ A B A' B' ca cb ca' cb' w, Vals w w.heap.size A (vs.map iV) → Cor w w.heap.size B (ps.map (shP (bx, bz))) → Vals w w.heap.size A' (vs.map iV) → Cor w w.heap.size B' (ps.map (shP (bx, bz))) → Calls Tryd.prog 25 #[PathA A n ca B k cb, PathA A' n ca' B' k cb'] w fun e w' => e = .returned (.bool true) ∧ Below w.heap.size w w' from fun A B A' B' ca cb ca' cb' w h1 h2 h3 h4 => by
            have := r7same_any A B A' B' ca cb ca' cb' _ _ _ _ w h1 h2 h3 h4 (by rw [HVN.out]; omega) (by rw [List.length_map, HMP.out]; omega)
            rw [HVN.out, List.length_map, HMP.out, decide_eq_true ⟨rfl, rfl⟩] at this
            exact this)
          have SHF := Lib.hid (show ∀ w, PathIn w A B cv cp vs ps → Calls Tryd.prog 28 #[PathA A n cv B k cp, P2 bx bz] w fun e w' => ∃ A' c' B' d', e = .returned (PathA A' n c' B' k d') ∧ Vals w' w'.heap.size A' (vs.map iV) ∧ Cor w' w'.heap.size B' (ps.map (shP (bx, bz))) ∧ Below w.heap.size w w' from fun w hi => by
            have := q7shift_any A B cv cp vs ps bx bz w hi.rv hi.rp hi.nv (by rw [HVN.out]; omega) (by rw [HMP.out]; omega) hnear2 NR.out.1 NR.out.2
            rw [HVN.out, HMP.out] at this
            refine this.mono ?_
            rintro e w' ⟨a, c, b, d, h1, h2, h3, _, h4⟩
            exact ⟨a, c, b, d, h1, h2, h3, h4⟩)
          have RSH := Lib.hid (show ∀ w, PathIn w A B cv cp vs ps → Calls Tryd.prog 29 #[PathA A n cv B k cp, P2 bx bz] w fun e w' => ∃ A' c' B' d', e = .returned (PathA A' n c' B' k d') ∧ Vals w' w'.heap.size A' (vs.map iV) ∧ Cor w' w'.heap.size B' (ps.map (shP (bx, bz))) ∧ Below w.heap.size w w' from fun w hi => by
            have := r7shift_any A B cv cp vs ps bx bz w hi.rv hi.rp hi.nv (by rw [HVN.out]; omega) (by rw [HMP.out]; omega) hnear2 NR.out.1 NR.out.2
            rw [HVN.out, HMP.out] at this
            exact this)
          have HIN6 := Lib.hid (HIN5.out.calls hbx)
          have HS6 := Lib.hid ((HS5.out.step hbx).more hbx.size)
          have hb6 := hb5.trans (hbx.mono hb5.size)
          clear hnear hnear2 hJ hQ d1 d2 d3 d4
          go_upto_region 19 with fail
          go_region_held3 (fun w' => w'.cell? ⟨w.heap.size, 0, none⟩ = some (.slice A n cv) ∧ w'.cell? ⟨w.heap.size, 1, none⟩ = some (.slice B k cp) ∧ w'.cell? ⟨w.heap.size + 1, 0, none⟩ = some (.int .i64 bx) ∧ w'.cell? ⟨w.heap.size + 1, 1, none⟩ = some (.int .i64 bz) ∧ Below wi.heap.size wi w') ((first | assumption | exact ⟨by simp [*], by simp [*], by simp [*], by simp [*], (Below.refl _ _).drew⟩ | exact keep4 ‹_› hb (by (try dsimp only); omega) (by (try dsimp only); omega) (by (try dsimp only); omega) (by (try dsimp only); omega) | exact keepA4 ‹_› _ (by (try dsimp only); omega) (by (try dsimp only); omega) (by (try dsimp only); omega) (by (try dsimp only); omega) | exact keepS4 (keepS4 ‹_› _ _ (by (try dsimp only); omega) (by (try dsimp only); omega) (by (try dsimp only); omega) (by (try dsimp only); omega) (by (try dsimp only); omega)) _ _ (by (try dsimp only); omega) (by (try dsimp only); omega) (by (try dsimp only); omega) (by (try dsimp only); omega) (by (try dsimp only); omega))) ((first | (go_at_call 26; with_reducible refine (JN.out _ (HS6.out.calls (by exact belK4 (by assumption)))).mono ?_; rintro e w' ⟨Aa, ca, Ba, da, rfl, hva, hpa, hb⟩) | (go_at_call 13; with_reducible refine (its7_any _ _ _ _ _ _ _).mono ?_; rintro e w' ⟨rfl, hb⟩; (try have hva := hva.calls hb); (try have hpa := (hpa.step hb).more hb.size); (try have hvb := hvb.calls hb); (try have hpb := (hpb.step hb).more hb.size); (try have hvc := hvc.calls hb); (try have hpc := (hpc.step hb).more hb.size); (try have hvd := hvd.calls hb); (try have hpd := (hpd.step hb).more hb.size)) | (go_at_call 19; with_reducible refine (SBS.out _ (HS6.out.calls (by exact belK4 (by assumption)))).mono ?_; rintro e w' ⟨As, cs, rfl, hss, hb⟩; (try have hva := hva.calls hb); (try have hpa := (hpa.step hb).more hb.size); (try have hvb := hvb.calls hb); (try have hpb := (hpb.step hb).more hb.size); (try have hvc := hvc.calls hb); (try have hpc := (hpc.step hb).more hb.size); (try have hvd := hvd.calls hb); (try have hpd := (hpd.step hb).more hb.size)) | (go_at_call 27; with_reducible refine (RJ.out As cs _ hss).mono ?_; rintro e w' ⟨Ab, cb, Bb, db, rfl, hvb, hpb, hb⟩; (try have hva := hva.calls hb); (try have hpa := (hpa.step hb).more hb.size)) | (go_at_call 25; with_reducible refine (SAM.out _ _ _ _ _ _ _ _ _ hva hpa hvb hpb).mono ?_; rintro e w' ⟨rfl, hb⟩) | (go_at_call 28; with_reducible refine (SHF.out _ (HIN6.out.calls (by exact belK4 (by assumption)))).mono ?_; rintro e w' ⟨Ac, cc, Bc, dc, rfl, hvc, hpc, hb⟩) | (go_at_call 29; with_reducible refine (RSH.out _ (HIN6.out.calls (by exact belK4 (by assumption)))).mono ?_; rintro e w' ⟨Ad, cd, Bd, dd, rfl, hvd, hpd, hb⟩; (try have hvc := hvc.calls hb); (try have hpc := (hpc.step hb).more hb.size)) | (go_at_call 25; with_reducible refine (SAN.out _ _ _ _ _ _ _ _ _ hvc hpc hvd hpd).mono ?_; rintro e w' ⟨rfl, hb⟩)))
          all_goals
            have hF := belK4 ‹_ ∧ _ ∧ _ ∧ _ ∧ Below wi.heap.size wi _›
            go_wp2
            go_ret
            exact ⟨rfl, hb6.trans (hF.mono hb6.size)⟩
theorem walk_PathJoins (A0 : Option Addr) (k0 : Nat) (l : List SubV) (A B : Option Addr) (cv cp : Nat) (vs : List Int) (ps : List Pnt) (bx bz : Int) (w : World) (hl : l.length ≤ 9223372036854775807) (hsb : Subs w w.heap.size A0 l) (hsl : ∀ x ∈ l, x.2.1.length ≤ 9223372036854775807) (hin : PathIn w A B cv cp vs ps) :
    Calls Tryd.prog 4 #[.slice A0 l.length k0, PathA A vs.length cv B ps.length cp, P2 bx bz] w fun e w' => e = .returned (.bool true) ∧ Below w.heap.size w w' := by
  rcases Nat.lt_or_ge 20 l.length with hf | hf
  · exact joins7_many A0 k0 l A B cv cp vs ps bx bz w hl hsb hsl hin hf
  · cases hb : bnd7 vs.length ps.length
    · exact joins7_far A0 k0 l A B cv cp vs ps bx bz w hl hsb hsl hin hf hb
    · cases h2 : nearB bx bz
      · exact joins7_far2 A0 k0 l A B cv cp vs ps bx bz w hl hsb hsl hin hf hb h2
      · exact joins7_main A0 k0 l A B cv cp vs ps bx bz w hl hsb hsl hin hf hb h2
end Go.Proofs.YtalgmnnimfenpaaDoor
