/- What the program's own pieces answer: Area, and whether a point lies on the right of no side. -/
import Derived.Test.YtlgfnhapjhoelaaPieceA
import Derived.Test.YtlgfnhapjhoelaaSign
namespace Go.Proofs.Ytlgfnhapjhoelaa
open Go.RowKit Go.Shelf
set_option linter.unusedVariables false
set_option linter.unusedSimpArgs false
set_option maxHeartbeats 4000000
set_option maxRecDepth 100000
attribute [local go_sem] Oper.semAt_some

def sumE (pre : List Edg) : Int := wrapA ((pre.map fun e => crossP e.val).sum)
theorem sumE_snoc (pre : List Edg) (x : Edg) : sumE (pre ++ [x]) = wrapA (sumE pre + crossP x.val) := by
  unfold sumE; rw [wrapA_add, List.map_append, List.sum_append]; simp
theorem sumE_all {ys : List Edg} {l : List Pnt} (h : ys.map Subtype.val = edges l) : sumE ys = areaV l := by
  unfold sumE areaV areaE; rw [← h, List.map_map]; rfl
/-- A box of a point. -/
def PtAt (W : World) (B : Nat) (p : Pnt) : Prop := W.heap[B]? = some (.cells #[.int .i64 p.1, .int .i64 p.2] 24 (0, 0))
theorem PtAt.lt {W : World} {B : Nat} {p : Pnt} (h : PtAt W B p) : B < W.heap.size := (Array.getElem?_eq_some_iff.1 h).1
theorem PtAt.cell1 {W : World} {B : Nat} {p : Pnt} (h : PtAt W B p) : W.cell? ⟨B, 0, none⟩ = some (.int .i64 p.1) := by simp [World.cell?, show W.heap[B]? = _ from h]
theorem PtAt.cell2 {W : World} {B : Nat} {p : Pnt} (h : PtAt W B p) : W.cell? ⟨B, 1, none⟩ = some (.int .i64 p.2) := by simp [World.cell?, show W.heap[B]? = _ from h]
theorem PtAt.kept {W W' : World} {row : Option Nat} {B : Nat} {p : Pnt} (h : PtAt W B p) (hg : W.grownBy W' row) (hne : some B ≠ row) : PtAt W' B p := (hg.block B h.lt hne).trans h
theorem PtAt.alloc {W : World} {B : Nat} {p : Pnt} (h : PtAt W B p) (o : Obj) : PtAt (W.alloc o) B p := h.kept (World.grownBy_alloc W o none) (by simp)
theorem PtAt.new (W : World) (p : Pnt) : PtAt (W.alloc (.cells #[.int .i64 p.1, .int .i64 p.2] 24)) W.heap.size p := World.alloc_heap_new W _
theorem PtAt.other {W : World} {B B' : Nat} {p : Pnt} (h : PtAt W B p) (hne : B ≠ B') (u : Value) : PtAt (W.setCell ⟨B', 0, none⟩ u) B p := h.kept (grownBy_setCell' W B' u) (fun e => hne (by cases e; rfl))
theorem PtAt.below {W W' : World} {B : Nat} {p : Pnt} (h : PtAt W B p) (hb : Below W.heap.size W W') : PtAt W' B p := (hb.block B h.lt).trans h
theorem pt_own {X Y : World} {row : Option Nat} {B : Nat} {p : Pnt} (h : PtAt X B p) (hg : X.grownBy Y row) (hrow : ∀ r, row = some r → ∃ o : Obj, X.heap[r]? = some o ∧ o.isCells = false) : PtAt Y B p :=
  h.kept hg (fun e' => by obtain ⟨o, ho, hc⟩ := hrow B e'.symm; rw [show X.heap[B]? = _ from h] at ho; cases ho; cases hc)
theorem boxed_below {W W' : World} {B : Nat} {t : TypeId} {v : Value} (h : Boxed W B t v) (hb : Below W.heap.size W W') : Boxed W' B t v := (hb.block B h.lt).trans h
theorem others_below {W W' : World} (hb : Below W.heap.size W W') : KeepsOthers W W' := ⟨hb.size, fun k o h _ => (hb.block k (Array.getElem?_eq_some_iff.1 h).1).trans h⟩

theorem keepB_set {B n₀ b : Nat} (W : World) (v : Value) (h : b ≠ B) (hn : n₀ ≤ b) : KeepB B n₀ W (W.setCell ⟨b, 0, none⟩ v) :=
  ⟨fun u e => (cell_far _ _ _ _ h).trans e, (Below.refl _ _).setCell (p := ⟨b, 0, none⟩) hn _⟩

theorem parea_in (n : Nat) (hn : 3 ≤ n) (A : Option Addr) (cap : Nat) (l : List Pnt) (w : World) (hr : Cor w w.heap.size A l) (hl : l.length ≤ 16) (hnr : allNear l = true) :
    CallsIn Fence.wide n Try.prog 13 #[.slice A l.length cap] w fun e w' => e = .returned (.int .i64 (areaV l)) ∧ Below w.heap.size w w' := by
  have HR := Lib.hid hr
  have HN := Lib.hid hnr
  clear hr hnr
  obtain ⟨L, hL⟩ : ∃ L, l.length = L := ⟨_, rfl⟩
  rw [hL] at hl ⊢
  have HL := Lib.hid hL
  clear hL
  have h1 : 1 ≤ n := by omega
  refine callsIn_of_wp_marks Try.func13 rfl trivial ?_ rfl
  simp only [Try.ntmps13, List.size_toArray, List.length_cons, List.length_nil, Nat.reduceAdd, Nat.reduceSub, Array.replicate_succ, Array.replicate_zero, List.push_toArray, List.append_toArray, List.nil_append, List.cons_append]
  gi_wp2_with (refine ⟨trivial, ?_⟩; gi_at_call 29; refine (sides_in _ A L cap _).mono ?_; rintro e w2 ⟨rfl, rfl⟩)
  have bS := (Boxed.new w 3 (.int .i64 0)).alloc (.cells #[.slice A L cap] 27)
  have bA := Boxed.new (w.alloc (.cells #[.int .i64 0] 3)) 27 (.slice A L cap)
  simp only [World.size_alloc] at bA
  have hB0 : Below w.heap.size w ((w.alloc (.cells #[.int .i64 0] 3)).alloc (.cells #[.slice A L cap] 27)) := ((Below.refl _ w).alloc (Nat.le_refl _) _).alloc (by simp) _
  have hsz : ((w.alloc (.cells #[.int .i64 0] 3)).alloc (.cells #[.slice A L cap] 27)).heap.size = w.heap.size + 2 := by simp
  obtain ⟨W0, hW0⟩ : ∃ W0, (w.alloc (.cells #[.int .i64 0] 3)).alloc (.cells #[.slice A L cap] 27) = W0 := ⟨_, rfl⟩
  rw [hW0] at bS bA hB0 hsz ⊢
  clear hW0
  have hmx : Try.prog.follows .mixedOrders = true := by kernel_rfl
  refine wpIn_rangeFunc_ownH rfl (by omega) (gf := 42) (lb := #[.pointer (some ⟨w.heap.size + 1, 0, none⟩)]) rfl trivial (enters_of Try.func42 (by kernel_rfl) rfl)
    (sides_stops (n - 1) (w.heap.size + 1) w.heap.size (by omega) A cap l (by rw [HL.out]; omega) HN.out W0 (by omega) (by omega) (by rw [HL.out]; exact bA.cell) (HR.out.step hB0)) keepB_t (keepB_b (by omega)) (Below.refl _ _) (fun _ => rfl)
    (fun pre W => (Boxed W w.heap.size 3 (.int .i64 (sumE pre)) ∧ Boxed W (w.heap.size + 1) 27 (.slice A L cap)) ∧ Below w.heap.size w W)
    (fun _ _ _ => False)
    (OwnFrom.and (OwnFrom.and (Own.from (boxed_own _ _ _) _) (Own.from (boxed_own _ _ _) _)) (ownFrom_below (Nat.le_refl _) (by omega)))
    (fun _ _ _ _ _ hs _ _ => hs)
    ⟨⟨bS, bA⟩, hB0⟩
    (fun x a' W => ∃ Ba, w.heap.size + 1 < Ba ∧ PtAt W Ba x.val.1 ∧ PtAt W (Ba + 1) x.val.2 ∧ a' = { tmps := #[.slice A L cap, undef, .int .i64 0, .pointer (some ⟨w.heap.size, 0, none⟩), .pointer (some ⟨Ba, 0, none⟩), .pointer (some ⟨Ba + 1, 0, none⟩), .slice A L cap, .func (.func 42) #[] #[.pointer (some ⟨w.heap.size + 1, 0, none⟩)], P2 x.val.1.1 x.val.1.2, P2 x.val.2.1 x.val.2.2, undef, undef, undef, undef, undef, undef], defers := [] })
    (fun x a' _ X Y row hs hg hr => by obtain ⟨Ba, h1, h2, h3, h4⟩ := hs; exact ⟨Ba, h1, pt_own h2 hg (fun r e => (hr r e).2), pt_own h3 hg (fun r e => (hr r e).2), h4⟩)
    ?assign ?body ?done ?stop
  case assign =>
    rintro lp pre x W K ⟨⟨bS1, bA1⟩, hB1⟩ hK
    have hz := hB1.size
    have hlt := bA1.lt
    gi_wp2
    have p1 := (PtAt.new W x.val.1).alloc (.cells #[.int .i64 x.val.2.1, .int .i64 x.val.2.2] 24)
    have p2 := PtAt.new (W.alloc (.cells #[.int .i64 x.val.1.1, .int .i64 x.val.1.2] 24)) x.val.2
    rw [World.size_alloc] at p2
    exact hK _ _ (((KeepsOthers.alloc _ _).trans (KeepsOthers.alloc _ _)).from _) (keepB_below (((Below.refl _ _).alloc (Nat.le_refl _) _).alloc (by simp) _) hlt hz) ⟨⟨(bS1.alloc _).alloc _, (bA1.alloc _).alloc _⟩, (hB1.alloc hz _).alloc (by simp; omega) _⟩ ⟨W.heap.size, hlt, p1, p2, rfl⟩
  case body =>
    rintro lp pre x a' W hlp ⟨r, hr⟩ ⟨⟨bS1, bA1⟩, hB1⟩ ⟨Ba, hBa, p1, p2, rfl⟩ hlen
    have h1' : 1 ≤ n - 1 - 1 := by omega
    have HX := Lib.hid (sumE_snoc pre x)
    obtain ⟨⟨⟨x1, x2⟩, ⟨x3, x4⟩⟩, hx⟩ := x
    obtain ⟨⟨b1, b2⟩, b3, b4⟩ := hx
    dsimp only at p1 p2 b1 b2 b3 b4 HX ⊢
    have c1 : W.cell? ⟨Ba, 0, none⟩ = some (.int .i64 x1) := p1.cell1
    have c2 : W.cell? ⟨Ba, 1, none⟩ = some (.int .i64 x2) := p1.cell2
    have c3 : W.cell? ⟨Ba + 1, 0, none⟩ = some (.int .i64 x3) := p2.cell1
    have c4 : W.cell? ⟨Ba + 1, 1, none⟩ = some (.int .i64 x4) := p2.cell2
    have cS := bS1.cell
    have fS := bS1.frozen
    have hzW := hB1.size
    have hltW := bA1.lt
    obtain ⟨s, hs⟩ : ∃ s, sumE pre = s := ⟨_, rfl⟩
    rw [hs] at cS bS1 HX
    have HSum := Lib.hid hs
    clear hs
    obtain ⟨c, hc⟩ : ∃ c, x1 * x4 - x2 * x3 = c := ⟨_, rfl⟩
    have CR0 := fun w => vcross_any x1 x2 x3 x4 w b1 b2 b3 b4
    simp only [hc] at CR0
    have CR := Lib.hid CR0
    have hm : IntKind.i64.wrap (s + c) = wrapA (s + c) := by rw [IntKind.wrap_i64]; rfl
    obtain ⟨m, hmm⟩ : ∃ m, wrapA (s + c) = m := ⟨_, rfl⟩
    rw [hmm] at hm
    have HM := Lib.hid (show sumE (pre ++ [⟨((x1, x2), x3, x4), ⟨b1, b2⟩, b3, b4⟩]) = m by rw [HX.out, ← hmm, ← hc]; rfl)
    obtain ⟨Q, hQ⟩ : ∃ Q : List Edg, pre ++ [⟨((x1, x2), x3, x4), ⟨b1, b2⟩, b3, b4⟩] = Q := ⟨_, rfl⟩
    rw [hQ] at HM ⊢
    clear CR0 hc hmm HX hQ b1 b2 b3 b4
    gi_wp2
    gi_region_with_o (refine ⟨trivial, ?_⟩; gi_at_call 30; refine (CallsIn.inRound lp (callsIn_wide.2 (CR.out _))).mono ?_; rintro e w3 ⟨rfl, hb⟩; have bS3 := boxed_below (W := W.drew) bS1 hb; have bA3 := boxed_below (W := W.drew) bA1 hb; have cS3 := bS3.cell; have fS3 := bS3.frozen; have hb3 : Below W.heap.size W w3 := (Below.refl _ _).drew.trans hb; clear hb)
    all_goals
      exact ⟨((others_below hb3).trans (KeepsOthers.setCell _ _ _)).from _, keepB_t (keepB_below hb3 hltW hzW) (keepB_set _ _ (by omega) (Nat.le_refl _)), ⟨by rw [HM.out]; exact bS3.set _, bA3.other (by omega) _⟩, (hB1.trans (hb3.mono hzW)).setCell (p := ⟨w.heap.size, 0, none⟩) (Nat.le_refl _) _⟩
  case done =>
    rintro D zs W hD hS ⟨⟨bS1, bA1⟩, hB1⟩ hK
    rw [sumE_all hS] at bS1
    have cS := bS1.cell
    gi_wp2
    refine ⟨by simp, .inl ⟨_, _, rfl, run_takeDeferred hK, ?_⟩⟩
    exact ⟨_, results_tmp rfl _ _ _, rfl, hB1.trans (belowK_b (w := w) (Nat.le_refl _) W D _ _ (by omega) hK rfl rfl)⟩
  case stop =>
    rintro D c pre W _ _ h _
    exact h.elim
theorem parea_any (A : Option Addr) (cap : Nat) (l : List Pnt) (w : World) (hr : Cor w w.heap.size A l) (hl : l.length ≤ 16) (hn : allNear l = true) :
    Calls Try.prog 13 #[.slice A l.length cap] w fun e w' => e = .returned (.int .i64 (areaV l)) ∧ Below w.heap.size w w' :=
  callsIn_wide.1 (parea_in 3 (by omega) A cap l w hr hl hn)

/-- All these sides have the point q not on their right. -/
def allE (q : Pnt) (pre : List Edg) : Bool := pre.all fun e => leftOf1 q e.val
theorem allE_all {q : Pnt} {ys : List Edg} {l : List Pnt} (h : ys.map Subtype.val = edges l) : hasAll l q = allE q ys := by
  unfold hasAll allE; rw [← h, List.all_map]; rfl
theorem allE_not {q : Pnt} {ys : List Edg} {l : List Pnt} (h : ys.map Subtype.val <+: edges l) (hn : allE q ys = false) : hasAll l q = false := by
  obtain ⟨t, ht⟩ := h
  unfold hasAll
  rw [← ht, List.all_append, List.all_map]
  unfold allE at hn
  rw [show ys.all (leftOf1 q ∘ Subtype.val) = false from hn, Bool.false_and]
theorem allE_snoc (q : Pnt) (pre : List Edg) (x : Edg) : allE q (pre ++ [x]) = (allE q pre && leftOf1 q x.val) := by
  unfold allE; rw [List.all_append]; simp

theorem pinside_in (n : Nat) (hn : 3 ≤ n) (A : Option Addr) (cap : Nat) (l : List Pnt) (a c : Int) (w : World) (hr : Cor w w.heap.size A l) (hl : l.length ≤ 16) (hnr : allNear l = true) (ha : -1073741824 ≤ a ∧ a ≤ 1073741824) (hc : -1073741824 ≤ c ∧ c ≤ 1073741824) :
    CallsIn Fence.wide n Try.prog 32 #[.slice A l.length cap, P2 a c] w fun e w' => e = .returned (.bool (hasAll l (a, c))) ∧ Below w.heap.size w w' := by
  have HR := Lib.hid hr
  have HN := Lib.hid hnr
  have HAC := Lib.hid (And.intro ha hc)
  clear hr hnr ha hc
  obtain ⟨L, hL⟩ : ∃ L, l.length = L := ⟨_, rfl⟩
  rw [hL] at hl ⊢
  have HL := Lib.hid hL
  clear hL
  have h1 : 1 ≤ n := by omega
  refine callsIn_of_wp_marks Try.func32 rfl trivial ?_ rfl
  simp only [Try.ntmps32, List.size_toArray, List.length_cons, List.length_nil, Nat.reduceAdd, Nat.reduceSub, Array.replicate_succ, Array.replicate_zero, List.push_toArray, List.append_toArray, List.nil_append, List.cons_append]
  gi_wp2_with (refine ⟨trivial, ?_⟩; gi_at_call 29; refine (sides_in _ A L cap _).mono ?_; rintro e w2 ⟨rfl, rfl⟩)
  have bQ := ((PtAt.new w (a, c)).alloc (.cells #[.bool false] 4)).alloc (.cells #[.slice A L cap] 27)
  have bS := (Boxed.new (w.alloc (.cells #[.int .i64 a, .int .i64 c] 24)) 4 (.bool false)).alloc (.cells #[.slice A L cap] 27)
  have bA := Boxed.new ((w.alloc (.cells #[.int .i64 a, .int .i64 c] 24)).alloc (.cells #[.bool false] 4)) 27 (.slice A L cap)
  simp only [World.size_alloc] at bA bS
  have hB0 : Below w.heap.size w (((w.alloc (.cells #[.int .i64 a, .int .i64 c] 24)).alloc (.cells #[.bool false] 4)).alloc (.cells #[.slice A L cap] 27)) := (((Below.refl _ w).alloc (Nat.le_refl _) _).alloc (by simp) _).alloc (by simp; omega) _
  have hsz : (((w.alloc (.cells #[.int .i64 a, .int .i64 c] 24)).alloc (.cells #[.bool false] 4)).alloc (.cells #[.slice A L cap] 27)).heap.size = w.heap.size + 3 := by simp
  obtain ⟨W0, hW0⟩ : ∃ W0, ((w.alloc (.cells #[.int .i64 a, .int .i64 c] 24)).alloc (.cells #[.bool false] 4)).alloc (.cells #[.slice A L cap] 27) = W0 := ⟨_, rfl⟩
  dsimp only at bQ
  rw [hW0] at bQ bS bA hB0 hsz ⊢
  clear hW0
  have hmx : Try.prog.follows .mixedOrders = true := by kernel_rfl
  refine wpIn_rangeFunc_ownH rfl (by omega) (gf := 42) (lb := #[.pointer (some ⟨w.heap.size + 1 + 1, 0, none⟩)]) rfl trivial (enters_of Try.func42 (by kernel_rfl) rfl)
    (sides_stops (n - 1) (w.heap.size + 1 + 1) w.heap.size (by omega) A cap l (by rw [HL.out]; omega) HN.out W0 (by omega) (by omega) (by rw [HL.out]; exact bA.cell) (HR.out.step hB0)) keepB_t (keepB_b (by omega)) (Below.refl _ _) (fun _ => rfl)
    (fun pre W => (((PtAt W w.heap.size (a, c) ∧ Boxed W (w.heap.size + 1) 4 (.bool false)) ∧ Boxed W (w.heap.size + 1 + 1) 27 (.slice A L cap)) ∧ allE (a, c) pre = true) ∧ Below w.heap.size w W)
    (fun j pre W => ((j = Code.ret ∧ allE (a, c) pre = false) ∧ Boxed W (w.heap.size + 1) 4 (.bool false)) ∧ Below w.heap.size w W)
    (OwnFrom.and (OwnFrom.and (OwnFrom.and (OwnFrom.and (Own.from (fun s X Y row hs hg hr => pt_own hs hg hr) _) (Own.from (boxed_own _ _ _) _)) (Own.from (boxed_own _ _ _) _)) (ownFrom_pure _ _)) (ownFrom_below (Nat.le_refl _) (by omega)))
    (fun j => OwnFrom.and (OwnFrom.and (ownFrom_pure _ _) (Own.from (boxed_own _ _ _) _)) (ownFrom_below (Nat.le_refl _) (by omega)))
    ⟨⟨⟨⟨bQ, bS⟩, bA⟩, rfl⟩, hB0⟩
    (fun x a' W => ∃ Ba, w.heap.size + 1 + 1 < Ba ∧ PtAt W Ba x.val.1 ∧ PtAt W (Ba + 1) x.val.2 ∧ a' = { tmps := #[.slice A L cap, P2 a c, undef, .pointer (some ⟨w.heap.size, 0, none⟩), .pointer (some ⟨w.heap.size + 1, 0, none⟩), .pointer (some ⟨Ba, 0, none⟩), .pointer (some ⟨Ba + 1, 0, none⟩), .slice A L cap, .func (.func 42) #[] #[.pointer (some ⟨w.heap.size + 1 + 1, 0, none⟩)], P2 x.val.1.1 x.val.1.2, P2 x.val.2.1 x.val.2.2, undef, undef, undef, undef, undef], defers := [] })
    (fun x a' _ X Y row hs hg hr => by obtain ⟨Ba, h1, h2, h3, h4⟩ := hs; exact ⟨Ba, h1, pt_own h2 hg (fun r e => (hr r e).2), pt_own h3 hg (fun r e => (hr r e).2), h4⟩)
    ?assign ?body ?done ?stop
  case assign =>
    rintro lp pre x W K ⟨⟨⟨⟨bQ1, bS1⟩, bA1⟩, hall⟩, hB1⟩ hK
    have hz := hB1.size
    have hlt := bA1.lt
    gi_wp2
    have p1 := (PtAt.new W x.val.1).alloc (.cells #[.int .i64 x.val.2.1, .int .i64 x.val.2.2] 24)
    have p2 := PtAt.new (W.alloc (.cells #[.int .i64 x.val.1.1, .int .i64 x.val.1.2] 24)) x.val.2
    rw [World.size_alloc] at p2
    exact hK _ _ (((KeepsOthers.alloc _ _).trans (KeepsOthers.alloc _ _)).from _) (keepB_below (((Below.refl _ _).alloc (Nat.le_refl _) _).alloc (by simp) _) hlt hz) ⟨⟨⟨⟨(bQ1.alloc _).alloc _, (bS1.alloc _).alloc _⟩, (bA1.alloc _).alloc _⟩, hall⟩, (hB1.alloc hz _).alloc (by simp; omega) _⟩ ⟨W.heap.size, hlt, p1, p2, rfl⟩
  case body =>
    rintro lp pre x a' W hlp ⟨r, hr⟩ ⟨⟨⟨⟨bQ1, bS1⟩, bA1⟩, hall⟩, hB1⟩ ⟨Ba, hBa, p1, p2, rfl⟩ hlen
    have h1' : 1 ≤ n - 1 - 1 := by omega
    have HX := Lib.hid (allE_snoc (a, c) pre x)
    rw [hall, Bool.true_and] at HX
    obtain ⟨⟨⟨x1, x2⟩, ⟨x3, x4⟩⟩, hx⟩ := x
    obtain ⟨⟨b1, b2⟩, b3, b4⟩ := hx
    dsimp only at p1 p2 b1 b2 b3 b4 HX ⊢
    have c1 : W.cell? ⟨Ba, 0, none⟩ = some (.int .i64 x1) := p1.cell1
    have c2 : W.cell? ⟨Ba, 1, none⟩ = some (.int .i64 x2) := p1.cell2
    have c3 : W.cell? ⟨Ba + 1, 0, none⟩ = some (.int .i64 x3) := p2.cell1
    have c4 : W.cell? ⟨Ba + 1, 1, none⟩ = some (.int .i64 x4) := p2.cell2
    have c5 : W.cell? ⟨w.heap.size, 0, none⟩ = some (.int .i64 a) := bQ1.cell1
    have c6 : W.cell? ⟨w.heap.size, 1, none⟩ = some (.int .i64 c) := bQ1.cell2
    have hzW := hB1.size
    have hltW := bA1.lt
    obtain ⟨s, hs⟩ : ∃ s, sideV x1 x2 x3 x4 a c = s := ⟨_, rfl⟩
    have CR0 := fun w => side_any x1 x2 x3 x4 a c w b1 b2 b3 b4 HAC.out.1 HAC.out.2
    simp only [hs] at CR0
    have CR := Lib.hid CR0
    have HE := Lib.hid (HX.out.trans (left_side (a, c) x1 x2 x3 x4 s hs))
    obtain ⟨Q, hQ⟩ : ∃ Q : List Edg, pre ++ [⟨((x1, x2), x3, x4), ⟨b1, b2⟩, b3, b4⟩] = Q := ⟨_, rfl⟩
    rw [hQ] at HE ⊢
    clear CR0 hs HX hQ b1 b2 b3 b4 hall
    by_cases hneg : s < 0
    · have q1 : decide (s < 0) = true := by simpa using hneg
      have HF := Lib.hid (show allE (a, c) Q = false by rw [HE.out, q1]; rfl)
      clear HE hneg
      gi_wp2_with (refine ⟨trivial, ?_⟩; gi_at_call 44; refine (CallsIn.inRound lp (callsIn_wide.2 (CR.out _))).mono ?_; rintro e w3 ⟨rfl, hb⟩; have bQ3 := PtAt.below (W := W) bQ1 hb; have bS3 := boxed_below (W := W) bS1 hb; have bA3 := boxed_below (W := W) bA1 hb; have hb3 : Below W.heap.size W w3 := hb; clear hb; have cS3 := bS3.cell; have fS3 := bS3.frozen)
      all_goals
        exact ⟨((others_below hb3).trans (KeepsOthers.setCell _ _ _)).from _, ⟨⟨rfl, HF.out⟩, bS3.set _⟩, (hB1.trans (hb3.mono hzW)).setCell (p := ⟨w.heap.size + 1, 0, none⟩) (by simp) _⟩
    · have q1 : decide (s < 0) = false := by simpa using hneg
      have HF := Lib.hid (show allE (a, c) Q = true by rw [HE.out, q1]; rfl)
      clear HE hneg
      gi_wp2_with (refine ⟨trivial, ?_⟩; gi_at_call 44; refine (CallsIn.inRound lp (callsIn_wide.2 (CR.out _))).mono ?_; rintro e w3 ⟨rfl, hb⟩; have bQ3 := PtAt.below (W := W) bQ1 hb; have bS3 := boxed_below (W := W) bS1 hb; have bA3 := boxed_below (W := W) bA1 hb; have hb3 : Below W.heap.size W w3 := hb; clear hb)
      all_goals
        exact ⟨(others_below hb3).from _, keepB_below hb3 hltW hzW, ⟨⟨⟨bQ3, bS3⟩, bA3⟩, HF.out⟩, hB1.trans (hb3.mono hzW)⟩
  case done =>
    rintro D zs W hD hS ⟨⟨⟨⟨bQ1, bS1⟩, bA1⟩, hall⟩, hB1⟩ hK
    have F := Lib.hid (show hasAll l (a, c) = true by rw [allE_all hS, hall])
    clear hall
    have cS := bS1.cell
    have fS := bS1.frozen
    gi_wp2
    have hK' := (KeepsOthers.setCell W ⟨w.heap.size + 1, 0, none⟩ (.bool true)).same D _ hK rfl
    refine ⟨by simp, .inl ⟨_, _, rfl, run_takeDeferred hK', ?_⟩⟩
    have hc5 := cell_kept (bS1.set (.bool true)).cell (grownBy_putObj' _ D (.deferred none)) (fun r e => by cases e; exact ⟨_, hK', rfl⟩)
    refine ⟨.bool true, ?_, by rw [F.out], (hB1.setCell (p := ⟨w.heap.size + 1, 0, none⟩) (by simp) _).trans (belowK_b (w := w) (Nat.le_refl _) _ D _ _ (by omega) hK' rfl rfl)⟩
    simp [results, Try.f32, go_sem, hc5]
  case stop =>
    rintro D j pre W hD hpre ⟨⟨⟨rfl, hall⟩, bS1⟩, hB1⟩ hK
    have F := Lib.hid (allE_not hpre hall)
    clear hall
    gi_wp2
    refine ⟨by simp, .inl ⟨_, _, rfl, run_takeDeferred hK, ?_⟩⟩
    have hc5 := cell_kept bS1.cell (grownBy_putObj' _ D (.deferred none)) (fun r e => by cases e; exact ⟨_, hK, rfl⟩)
    refine ⟨.bool false, ?_, by rw [F.out], hB1.trans (belowK_b (w := w) (Nat.le_refl _) W D _ _ (by omega) hK rfl rfl)⟩
    simp [results, Try.f32, go_sem, hc5]

theorem pinside_any (A : Option Addr) (cap : Nat) (l : List Pnt) (a c : Int) (w : World) (hr : Cor w w.heap.size A l) (hl : l.length ≤ 16) (hn : allNear l = true) (ha : -1073741824 ≤ a ∧ a ≤ 1073741824) (hc : -1073741824 ≤ c ∧ c ≤ 1073741824) :
    Calls Try.prog 32 #[.slice A l.length cap, P2 a c] w fun e w' => e = .returned (.bool (hasAll l (a, c))) ∧ Below w.heap.size w w' :=
  callsIn_wide.1 (pinside_in 3 (by omega) A cap l a c w hr hl hn ha hc)
end Go.Proofs.Ytlgfnhapjhoelaa
