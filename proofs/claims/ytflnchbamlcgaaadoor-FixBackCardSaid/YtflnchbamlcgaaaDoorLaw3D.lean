/- The walk of FixBack. -/
import Derived.RangeFuncBox
import Derived.Maps.AppendAt
import Derived.OwnWalk
import Derived.Test.YtflnchbamlcgaaaDoorLaw3B
namespace Go.Proofs.YtflnchbamlcgaaaDoor
open Go.RowKit
set_option linter.unusedVariables false
set_option linter.unusedSimpArgs false
set_option maxHeartbeats 2000000
set_option maxRecDepth 100000

theorem info_u8 : (Tryd.prog.info? 5).map (fun i => (i.zero, i.size, i.bytes)) = some (some (.int .u8 0), 1, 1) := by kernel_rfl
theorem rep_snoc (k : Nat) (x : Value) : List.replicate (k + 1) x = List.replicate k x ++ [x] := List.replicate_succ'

theorem row_form {w : World} {base : Nat} {e : TypeId} {n : Nat} {v : Value} {xs : List Value} (h : w.ownsRow base e 1 v n xs) (hv : v ≠ .slice none 0 0) :
    ∃ g cap, v = .slice (some ⟨g, 0, none⟩) n cap ∧ base ≤ g ∧ ∀ j u, xs[j]? = some u → w.cell? ⟨g, j, none⟩ = some u := by
  rcases h.2 with ⟨e, _⟩ | ⟨g, cap, cur, rfl, hb, hh, _, _, _, ht⟩
  · exact absurd e hv
  · refine ⟨g, cap, rfl, hb, fun j u hj => ?_⟩
    rw [← ht, List.getElem?_take] at hj
    split at hj
    · have := cell_of_row w g j cur _ (0, 0) hh
      rw [this, ← hj]; simp
    · cases hj

theorem noughts_any (n : Nat) (w : World) (hn : n ≤ 3) :
    Calls Tryd.prog 22 #[.int .i64 n] w fun e w' => ∃ g cap : Nat, e = .returned (.slice (some ⟨g, 0, none⟩) n cap) ∧ (∀ j, j < n → w'.cell? ⟨g, j, none⟩ = some (.int .u8 48)) ∧ Below w.heap.size w w' := by
  obtain ⟨i0, hi, hz0, hz1, hz2⟩ := info_parts info_u8
  have HI := Lib.hid hi
  go_enter Tryd.func22, Tryd.ntmps22
  go_wp2
  go_loopw [3, 4] (fun v i wr => ∃ k : Nat, k ≤ n ∧ i = .int .i64 k ∧ v ≠ .slice none 0 0 ∧ wr.ownsRow w.heap.size 5 1 v k (List.replicate k (.int .u8 48)) ∧ Below w.heap.size w wr) (fun _ i _ => n - (intOf i).toNat)
  case atStart => exact ⟨0, Nat.zero_le _, rfl, by simp, World.ownsRow_made w #[] 0 (Nat.le_refl _) (Nat.zero_le _) rfl, (Below.refl _ _).alloc (by simp) _⟩
  case round =>
    obtain ⟨k, hk, rfl, hv, hown, hB⟩ := hrel
    by_cases hlt : k < n
    · have hsz := hB.size
      go_wp2_with (at_builtin; refine wpList_append_own _ rfl _ _ 31 rfl w.heap.size 5 i0 (.int .u8 0) 1 1 Tryd.underlying31 hi hz0 hz1 hz2 rfl (by decide) _ _ _ rfl (hown.alloc _) ⟨wr.heap.size, 0, none⟩ 1 1 [.int .u8 48] rfl rfl (cell_one_new _ _ _) (by simp [Value.oneCell']) (by unfold maxLen; omega) (by omega) (by simp; omega) ?_; intro v' w1 hown' hgrow _; obtain ⟨g', cap', rfl⟩ := ownsRow_succ hown')
      have hB2 := (hB.alloc (o := Obj.cells #[Value.int IntKind.u8 48] 5) hsz).grown hgrow (by simp; omega) (fun r e => by
        rcases hown.2 with ⟨e0, _⟩ | ⟨g, cap, cur, rfl, hb, _⟩
        · exact absurd e0 hv
        · have e1 : some g = some r := e
          have e2 := Option.some.inj e1
          omega)
      rw [← rep_snoc] at hown'
      clear hown hgrow hB hv
      go_wp2
      go_roundw
      case rel => exact ⟨k + 1, by omega, by go_num, by simp, hown', hB2⟩
      case measure => simp [intOf]; omega
    · obtain rfl : k = n := by omega
      obtain ⟨g, cap, rfl, hb, hc⟩ := row_form hown hv
      clear hown hv
      go_wp2
      go_ret
      exact ⟨g, cap, rfl, fun j hj => hc j _ (by simp [List.getElem?_replicate, hj]), hB⟩

theorem conv_noughts (w : World) (g p cap : Nat) (z : ByteArray) (hz : z = ⟨(List.replicate p 48).toArray⟩) (h : ∀ j, j < p → w.cell? ⟨g, j, none⟩ = some (.int .u8 48)) :
    (convert 31 9 (.slice (some ⟨g, 0, none⟩) p cap)).run Tryd.prog w = .ok (.string z) w := by
  have := run_convert_bytes_back (P := Tryd.prog) w 31 9 5 ⟨g, 0, none⟩ cap (List.replicate p 48) Tryd.underlying31 Tryd.underlying5 Tryd.underlying9 (fun j hj => by
    rw [List.length_replicate] at hj
    rw [List.getElem_replicate]
    have e : (⟨g, 0, none⟩ : Addr).add j = ⟨g, j, none⟩ := by unfold Addr.add; split <;> simp <;> omega
    rw [e]; exact h j hj)
  rw [List.length_replicate] at this
  rw [hz]; exact this
theorem rep_list {p : Nat} {z : ByteArray} (h : z = ⟨(List.replicate p 48).toArray⟩) : z.data.toList = List.replicate p 48 := by rw [h]
theorem rep_size {p : Nat} {z : ByteArray} (h : z = ⟨(List.replicate p 48).toArray⟩) : z.size = p := by rw [← size_list, rep_list h, List.length_replicate]
theorem pr_len (n : Int) (hn : -1099511627776 ≤ n ∧ n ≤ 1099511627776) : (pr n).length ≤ 30 := by
  have := noughty_len n.natAbs 0 0 (by omega) (by omega) (by omega)
  rw [noughty_0] at this
  unfold pr; split <;> simp <;> omega

theorem back_far (n : Int) (a b : Nat) (w : World) (hT : Tab w) (hn : -9223372036854775808 ≤ n ∧ n ≤ 9223372036854775807) (h : 1099511627776 < n ∨ n < -1099511627776) :
    Calls Tryd.prog 5 #[.int .i64 n, .int .u8 a, .int .u8 b] w fun e w' => e = .returned (.bool true) ∧ Below w.heap.size w w' := by
  by_cases h1 : 1099511627776 < n
  · have q1 : decide (1099511627776 < n) = true := by simpa using h1
    go_enter Tryd.func5, Tryd.ntmps5
    go_wp2_with fail
    refine (shown_any _ (by repeat (first | exact hT | refine Tab.step ?_ (by assumption)))).mono ?_
    rintro e w1 ⟨rfl, b1⟩
    go_wp2
    go_ret
    exact ⟨rfl, b1⟩
  · have h2 : n < -1099511627776 := by omega
    have q1 : decide (1099511627776 < n) = false := by simpa using h1
    have q2 : decide (n < -1099511627776) = true := by simpa using h2
    go_enter Tryd.func5, Tryd.ntmps5
    go_wp2_with fail
    refine (shown_any _ (by repeat (first | exact hT | refine Tab.step ?_ (by assumption)))).mono ?_
    rintro e w1 ⟨rfl, b1⟩
    go_wp2
    go_ret
    exact ⟨rfl, b1⟩

theorem back_negF (n : Int) (a b : Nat) (w : World) (hT : Tab w) (hn : -1099511627776 ≤ n ∧ n ≤ 1099511627776) (ha : a ≤ 255) (hb : b ≤ 255) (h0 : n < 0) (hr : Int.tmod n 256 ≠ 0) :
    Calls Tryd.prog 5 #[.int .i64 n, .int .u8 a, .int .u8 b] w fun e w' => e = .returned (.bool true) ∧ Below w.heap.size w w' := by
  have q1 : decide (1099511627776 < n) = false := by simp; omega
  have q2 : decide (n < -1099511627776) = false := by simp; omega
  have q3 : decide (n < 0) = true := by simpa using h0
  have hn2 : -9223372036854775808 ≤ n ∧ n ≤ 9223372036854775807 := by omega
  obtain ⟨p, hp⟩ : ∃ p, a % 4 = p := ⟨_, rfl⟩
  obtain ⟨q, hq⟩ : ∃ q, b % 4 = q := ⟨_, rfl⟩
  have p3 : p ≤ 3 := by omega
  have q33 : q ≤ 3 := by omega
  have ep : (a : Int) % 4 = (p : Int) := by omega
  have eq : (b : Int) % 4 = (q : Int) := by omega
  have r1 : (Int.tmod n 256 != 0) = true := by simpa using hr
  obtain ⟨r, hrr⟩ : ∃ r, Int.tmod n 256 = r := ⟨_, rfl⟩
  rw [hrr] at r1
  obtain ⟨s, hs⟩ : ∃ s : ByteArray, s = ⟨(pr n).toArray⟩ := ⟨_, rfl⟩
  have HS := Lib.hid (show S (pr n) = .string s by rw [hs]; rfl)
  have hl := list_of hs
  have hlen : s.size ≤ 30 := by rw [size_of hs]; exact pr_len n hn
  obtain ⟨z, hz⟩ : ∃ z : ByteArray, z = ⟨(List.replicate p 48).toArray⟩ := ⟨_, rfl⟩
  obtain ⟨y, hy⟩ : ∃ y : ByteArray, y = ⟨(List.replicate q 48).toArray⟩ := ⟨_, rfl⟩
  have zs : z.size ≤ 3 := by rw [rep_size hz]; exact p3
  have ys : y.size ≤ 3 := by rw [rep_size hy]; exact q33
  have hmod : n.natAbs % 256 = 0 ↔ Int.tmod n 256 = 0 := by rw [← Int.dvd_iff_tmod_eq_zero]; omega
  have P1 := Lib.hid (show parseV s.data.toList = .tuple #[.int .i64 n, .int .i64 0] by rw [hl]; exact pr_back n hn)
  have hl2 : s.data.toList = 45 :: prW n.natAbs := by rw [hl]; unfold pr; rw [if_pos h0]; rfl
  have sp : 0 < s.size := by rw [← size_list, hl2]; simp
  obtain ⟨u, hu⟩ : ∃ u, s.extract 1 s.size = u := ⟨_, rfl⟩
  have hul : u.data.toList = prW n.natAbs := by rw [← hu, extract_list, hl2]; rfl
  have us : u.size ≤ 30 := by have := size_tail sp hu; omega
  obtain ⟨sg, hsg⟩ : ∃ sg : ByteArray, sg = ⟨#[45]⟩ := ⟨_, rfl⟩
  have sgl : sg.data.toList = [45] := by rw [hsg]
  have sgs : sg.size ≤ 1 := by rw [hsg]; decide
  obtain ⟨t1, ht1⟩ : ∃ t1, sg ++ z = t1 := ⟨_, rfl⟩
  obtain ⟨t2, ht2⟩ : ∃ t2, t1 ++ u = t2 := ⟨_, rfl⟩
  have t1s : t1.size ≤ 4 := by rw [← ht1, ByteArray.size_append]; omega
  have t2s : t2.size ≤ 34 := by rw [← ht2, ByteArray.size_append]; omega
  have t2l : t2.data.toList = [45] ++ (List.replicate p 48 ++ prW n.natAbs) := by rw [← ht2, cat_list, ← ht1, cat_list, sgl, rep_list hz, hul, List.append_assoc]
  have k1 : ¬ 9223372036854775807 < sg.size + z.size := by omega
  have k2 : ¬ 9223372036854775807 < t1.size + u.size := by omega
  obtain ⟨t3, ht3⟩ : ∃ t3, t2 ++ y = t3 := ⟨_, rfl⟩
  have t3s : t3.size ≤ 37 := by rw [← ht3, ByteArray.size_append]; omega
  have k3 : ¬ 9223372036854775807 < t2.size + y.size := by omega
  have P2 := Lib.hid (show parseV t3.data.toList = .tuple #[.int .i64 n, .int .i64 0] by
    have hb := parse_back n p q hn p3 q33
    rw [if_pos h0] at hb
    unfold noughty at hb
    rw [if_neg (fun g => hr (hmod.1 g))] at hb
    rw [← ht3, cat_list, t2l, rep_list hy, List.append_assoc]
    exact hb)
  have CZ := Lib.hid (fun w g cap => conv_noughts w g p cap z hz)
  have CY := Lib.hid (fun w g cap => conv_noughts w g q cap y hy)
  have N1 := Lib.hid hn2
  have B1 := Lib.hid (show s.size < 9223372036854775808 by omega)
  have B2 := Lib.hid (show t3.size < 9223372036854775808 by omega)
  have cc : ((0 : Int) == 0) = true := rfl
  have nn : (n == n) = true := by simp
  clear hs hl hz hy hmod hul sgl t2l hp hq h0 hr hl2
  go_enter Tryd.func5, Tryd.ntmps5
  go_wp2_with fail
  refine (shown_any _ (by repeat (first | exact hT | refine Tab.step ?_ (by assumption)))).mono ?_
  rintro e w1 ⟨rfl, b1⟩
  go_wp2_with fail
  refine (print_any n _ N1.out (by repeat (first | exact hT | refine Tab.step ?_ (by assumption)))).mono ?_
  rintro e w2 ⟨rfl, b2⟩
  rw [HS.out]
  go_wp2_with fail
  refine (parse_any s _ B1.out).mono ?_
  rintro e w3 ⟨rfl, b3⟩
  rw [P1.out]
  have hB := (b1.trans (b2.mono b1.size)).trans (b3.mono (Nat.le_trans b1.size b2.size))
  clear b1 b2 b3
  rw [hsg] at ht1 k1
  go_wp2_with fail
  refine (noughts_any p _ p3).mono ?_
  rintro e w4 ⟨g, cap, rfl, hc, b4⟩
  have kz := CZ.out w4 g cap hc
  have hB2 := hB.trans (b4.mono hB.size)
  clear hc b4 hB
  go_wp2_with fail
  refine (noughts_any q _ q33).mono ?_
  rintro e w5 ⟨g2, cap2, rfl, hc, b5⟩
  have ky := CY.out w5 g2 cap2 hc
  have hB3 := hB2.trans (b5.mono hB2.size)
  clear hc b5 hB2
  go_wp2_with fail
  refine (parse_any t3 _ B2.out).mono ?_
  rintro e w6 ⟨rfl, b6⟩
  rw [P2.out]
  go_wp2
  go_ret
  exact ⟨rfl, hB3.trans (b6.mono hB3.size)⟩

theorem back_negW (n : Int) (a b : Nat) (w : World) (hT : Tab w) (hn : -1099511627776 ≤ n ∧ n ≤ 1099511627776) (ha : a ≤ 255) (hb : b ≤ 255) (h0 : n < 0) (hr : Int.tmod n 256 = 0) :
    Calls Tryd.prog 5 #[.int .i64 n, .int .u8 a, .int .u8 b] w fun e w' => e = .returned (.bool true) ∧ Below w.heap.size w w' := by
  have q1 : decide (1099511627776 < n) = false := by simp; omega
  have q2 : decide (n < -1099511627776) = false := by simp; omega
  have q3 : decide (n < 0) = true := by simpa using h0
  have hn2 : -9223372036854775808 ≤ n ∧ n ≤ 9223372036854775807 := by omega
  obtain ⟨p, hp⟩ : ∃ p, a % 4 = p := ⟨_, rfl⟩
  obtain ⟨q, hq⟩ : ∃ q, b % 4 = q := ⟨_, rfl⟩
  have p3 : p ≤ 3 := by omega
  have q33 : q ≤ 3 := by omega
  have ep : (a : Int) % 4 = (p : Int) := by omega
  have eq : (b : Int) % 4 = (q : Int) := by omega
  have r1 : (Int.tmod n 256 != 0) = false := by simpa using hr
  obtain ⟨r, hrr⟩ : ∃ r, Int.tmod n 256 = r := ⟨_, rfl⟩
  rw [hrr] at r1
  obtain ⟨s, hs⟩ : ∃ s : ByteArray, s = ⟨(pr n).toArray⟩ := ⟨_, rfl⟩
  have HS := Lib.hid (show S (pr n) = .string s by rw [hs]; rfl)
  have hl := list_of hs
  have hlen : s.size ≤ 30 := by rw [size_of hs]; exact pr_len n hn
  obtain ⟨z, hz⟩ : ∃ z : ByteArray, z = ⟨(List.replicate p 48).toArray⟩ := ⟨_, rfl⟩
  obtain ⟨y, hy⟩ : ∃ y : ByteArray, y = ⟨(List.replicate q 48).toArray⟩ := ⟨_, rfl⟩
  have zs : z.size ≤ 3 := by rw [rep_size hz]; exact p3
  have ys : y.size ≤ 3 := by rw [rep_size hy]; exact q33
  have hmod : n.natAbs % 256 = 0 ↔ Int.tmod n 256 = 0 := by rw [← Int.dvd_iff_tmod_eq_zero]; omega
  have P1 := Lib.hid (show parseV s.data.toList = .tuple #[.int .i64 n, .int .i64 0] by rw [hl]; exact pr_back n hn)
  have hl2 : s.data.toList = 45 :: prW n.natAbs := by rw [hl]; unfold pr; rw [if_pos h0]; rfl
  have sp : 0 < s.size := by rw [← size_list, hl2]; simp
  obtain ⟨u, hu⟩ : ∃ u, s.extract 1 s.size = u := ⟨_, rfl⟩
  have hul : u.data.toList = prW n.natAbs := by rw [← hu, extract_list, hl2]; rfl
  have us : u.size ≤ 30 := by have := size_tail sp hu; omega
  obtain ⟨sg, hsg⟩ : ∃ sg : ByteArray, sg = ⟨#[45]⟩ := ⟨_, rfl⟩
  have sgl : sg.data.toList = [45] := by rw [hsg]
  have sgs : sg.size ≤ 1 := by rw [hsg]; decide
  obtain ⟨t1, ht1⟩ : ∃ t1, sg ++ z = t1 := ⟨_, rfl⟩
  obtain ⟨t2, ht2⟩ : ∃ t2, t1 ++ u = t2 := ⟨_, rfl⟩
  have t1s : t1.size ≤ 4 := by rw [← ht1, ByteArray.size_append]; omega
  have t2s : t2.size ≤ 34 := by rw [← ht2, ByteArray.size_append]; omega
  have t2l : t2.data.toList = [45] ++ (List.replicate p 48 ++ prW n.natAbs) := by rw [← ht2, cat_list, ← ht1, cat_list, sgl, rep_list hz, hul, List.append_assoc]
  have k1 : ¬ 9223372036854775807 < sg.size + z.size := by omega
  have k2 : ¬ 9223372036854775807 < t1.size + u.size := by omega
  have P2 := Lib.hid (show parseV t2.data.toList = .tuple #[.int .i64 n, .int .i64 0] by
    have hb := parse_back n p q hn p3 q33
    rw [if_pos h0] at hb
    unfold noughty at hb
    rw [if_pos (hmod.2 hr), List.append_nil] at hb
    rw [t2l]
    exact hb)
  have CZ := Lib.hid (fun w g cap => conv_noughts w g p cap z hz)
  have CY := Lib.hid (fun w g cap => conv_noughts w g q cap y hy)
  have N1 := Lib.hid hn2
  have B1 := Lib.hid (show s.size < 9223372036854775808 by omega)
  have B2 := Lib.hid (show t2.size < 9223372036854775808 by omega)
  have cc : ((0 : Int) == 0) = true := rfl
  have nn : (n == n) = true := by simp
  clear hs hl hz hy hmod hul sgl t2l hp hq h0 hr hl2
  go_enter Tryd.func5, Tryd.ntmps5
  go_wp2_with fail
  refine (shown_any _ (by repeat (first | exact hT | refine Tab.step ?_ (by assumption)))).mono ?_
  rintro e w1 ⟨rfl, b1⟩
  go_wp2_with fail
  refine (print_any n _ N1.out (by repeat (first | exact hT | refine Tab.step ?_ (by assumption)))).mono ?_
  rintro e w2 ⟨rfl, b2⟩
  rw [HS.out]
  go_wp2_with fail
  refine (parse_any s _ B1.out).mono ?_
  rintro e w3 ⟨rfl, b3⟩
  rw [P1.out]
  have hB := (b1.trans (b2.mono b1.size)).trans (b3.mono (Nat.le_trans b1.size b2.size))
  clear b1 b2 b3
  rw [hsg] at ht1 k1
  go_wp2_with fail
  refine (noughts_any p _ p3).mono ?_
  rintro e w4 ⟨g, cap, rfl, hc, b4⟩
  have kz := CZ.out w4 g cap hc
  have hB2 := hB.trans (b4.mono hB.size)
  clear hc b4 hB
  go_wp2_with fail
  refine (parse_any t2 _ B2.out).mono ?_
  rintro e w6 ⟨rfl, b6⟩
  rw [P2.out]
  go_wp2
  go_ret
  exact ⟨rfl, hB2.trans (b6.mono hB2.size)⟩

theorem back_posF (n : Int) (a b : Nat) (w : World) (hT : Tab w) (hn : -1099511627776 ≤ n ∧ n ≤ 1099511627776) (ha : a ≤ 255) (hb : b ≤ 255) (h0 : ¬ n < 0) (hr : Int.tmod n 256 ≠ 0) :
    Calls Tryd.prog 5 #[.int .i64 n, .int .u8 a, .int .u8 b] w fun e w' => e = .returned (.bool true) ∧ Below w.heap.size w w' := by
  have q1 : decide (1099511627776 < n) = false := by simp; omega
  have q2 : decide (n < -1099511627776) = false := by simp; omega
  have q3 : decide (n < 0) = false := by simpa using h0
  have hn2 : -9223372036854775808 ≤ n ∧ n ≤ 9223372036854775807 := by omega
  obtain ⟨p, hp⟩ : ∃ p, a % 4 = p := ⟨_, rfl⟩
  obtain ⟨q, hq⟩ : ∃ q, b % 4 = q := ⟨_, rfl⟩
  have p3 : p ≤ 3 := by omega
  have q33 : q ≤ 3 := by omega
  have ep : (a : Int) % 4 = (p : Int) := by omega
  have eq : (b : Int) % 4 = (q : Int) := by omega
  have r1 : (Int.tmod n 256 != 0) = true := by simpa using hr
  obtain ⟨r, hrr⟩ : ∃ r, Int.tmod n 256 = r := ⟨_, rfl⟩
  rw [hrr] at r1
  obtain ⟨s, hs⟩ : ∃ s : ByteArray, s = ⟨(pr n).toArray⟩ := ⟨_, rfl⟩
  have HS := Lib.hid (show S (pr n) = .string s by rw [hs]; rfl)
  have hl := list_of hs
  have hlen : s.size ≤ 30 := by rw [size_of hs]; exact pr_len n hn
  obtain ⟨z, hz⟩ : ∃ z : ByteArray, z = ⟨(List.replicate p 48).toArray⟩ := ⟨_, rfl⟩
  obtain ⟨y, hy⟩ : ∃ y : ByteArray, y = ⟨(List.replicate q 48).toArray⟩ := ⟨_, rfl⟩
  have zs : z.size ≤ 3 := by rw [rep_size hz]; exact p3
  have ys : y.size ≤ 3 := by rw [rep_size hy]; exact q33
  have hmod : n.natAbs % 256 = 0 ↔ Int.tmod n 256 = 0 := by rw [← Int.dvd_iff_tmod_eq_zero]; omega
  have P1 := Lib.hid (show parseV s.data.toList = .tuple #[.int .i64 n, .int .i64 0] by rw [hl]; exact pr_back n hn)
  have hul : s.data.toList = prW n.natAbs := by rw [hl]; unfold pr; rw [if_neg h0]; rfl
  have us : s.size ≤ 30 := hlen
  obtain ⟨sg, hsg⟩ : ∃ sg : ByteArray, sg = ⟨#[]⟩ := ⟨_, rfl⟩
  have sgl : sg.data.toList = [] := by rw [hsg]
  have sgs : sg.size ≤ 1 := by rw [hsg]; decide
  obtain ⟨t1, ht1⟩ : ∃ t1, sg ++ z = t1 := ⟨_, rfl⟩
  obtain ⟨t2, ht2⟩ : ∃ t2, t1 ++ s = t2 := ⟨_, rfl⟩
  have t1s : t1.size ≤ 4 := by rw [← ht1, ByteArray.size_append]; omega
  have t2s : t2.size ≤ 34 := by rw [← ht2, ByteArray.size_append]; omega
  have t2l : t2.data.toList = [] ++ (List.replicate p 48 ++ prW n.natAbs) := by rw [← ht2, cat_list, ← ht1, cat_list, sgl, rep_list hz, hul, List.append_assoc]
  have k1 : ¬ 9223372036854775807 < sg.size + z.size := by omega
  have k2 : ¬ 9223372036854775807 < t1.size + s.size := by omega
  obtain ⟨t3, ht3⟩ : ∃ t3, t2 ++ y = t3 := ⟨_, rfl⟩
  have t3s : t3.size ≤ 37 := by rw [← ht3, ByteArray.size_append]; omega
  have k3 : ¬ 9223372036854775807 < t2.size + y.size := by omega
  have P2 := Lib.hid (show parseV t3.data.toList = .tuple #[.int .i64 n, .int .i64 0] by
    have hb := parse_back n p q hn p3 q33
    rw [if_neg h0] at hb
    unfold noughty at hb
    rw [if_neg (fun g => hr (hmod.1 g))] at hb
    rw [← ht3, cat_list, t2l, rep_list hy, List.append_assoc]
    exact hb)
  have CZ := Lib.hid (fun w g cap => conv_noughts w g p cap z hz)
  have CY := Lib.hid (fun w g cap => conv_noughts w g q cap y hy)
  have N1 := Lib.hid hn2
  have B1 := Lib.hid (show s.size < 9223372036854775808 by omega)
  have B2 := Lib.hid (show t3.size < 9223372036854775808 by omega)
  have cc : ((0 : Int) == 0) = true := rfl
  have nn : (n == n) = true := by simp
  clear hs hl hz hy hmod hul sgl t2l hp hq h0 hr
  go_enter Tryd.func5, Tryd.ntmps5
  go_wp2_with fail
  refine (shown_any _ (by repeat (first | exact hT | refine Tab.step ?_ (by assumption)))).mono ?_
  rintro e w1 ⟨rfl, b1⟩
  go_wp2_with fail
  refine (print_any n _ N1.out (by repeat (first | exact hT | refine Tab.step ?_ (by assumption)))).mono ?_
  rintro e w2 ⟨rfl, b2⟩
  rw [HS.out]
  go_wp2_with fail
  refine (parse_any s _ B1.out).mono ?_
  rintro e w3 ⟨rfl, b3⟩
  rw [P1.out]
  have hB := (b1.trans (b2.mono b1.size)).trans (b3.mono (Nat.le_trans b1.size b2.size))
  clear b1 b2 b3
  rw [hsg] at ht1 k1
  go_wp2_with fail
  refine (noughts_any p _ p3).mono ?_
  rintro e w4 ⟨g, cap, rfl, hc, b4⟩
  have kz := CZ.out w4 g cap hc
  have hB2 := hB.trans (b4.mono hB.size)
  clear hc b4 hB
  go_wp2_with fail
  refine (noughts_any q _ q33).mono ?_
  rintro e w5 ⟨g2, cap2, rfl, hc, b5⟩
  have ky := CY.out w5 g2 cap2 hc
  have hB3 := hB2.trans (b5.mono hB2.size)
  clear hc b5 hB2
  go_wp2_with fail
  refine (parse_any t3 _ B2.out).mono ?_
  rintro e w6 ⟨rfl, b6⟩
  rw [P2.out]
  go_wp2
  go_ret
  exact ⟨rfl, hB3.trans (b6.mono hB3.size)⟩

theorem back_posW (n : Int) (a b : Nat) (w : World) (hT : Tab w) (hn : -1099511627776 ≤ n ∧ n ≤ 1099511627776) (ha : a ≤ 255) (hb : b ≤ 255) (h0 : ¬ n < 0) (hr : Int.tmod n 256 = 0) :
    Calls Tryd.prog 5 #[.int .i64 n, .int .u8 a, .int .u8 b] w fun e w' => e = .returned (.bool true) ∧ Below w.heap.size w w' := by
  have q1 : decide (1099511627776 < n) = false := by simp; omega
  have q2 : decide (n < -1099511627776) = false := by simp; omega
  have q3 : decide (n < 0) = false := by simpa using h0
  have hn2 : -9223372036854775808 ≤ n ∧ n ≤ 9223372036854775807 := by omega
  obtain ⟨p, hp⟩ : ∃ p, a % 4 = p := ⟨_, rfl⟩
  obtain ⟨q, hq⟩ : ∃ q, b % 4 = q := ⟨_, rfl⟩
  have p3 : p ≤ 3 := by omega
  have q33 : q ≤ 3 := by omega
  have ep : (a : Int) % 4 = (p : Int) := by omega
  have eq : (b : Int) % 4 = (q : Int) := by omega
  have r1 : (Int.tmod n 256 != 0) = false := by simpa using hr
  obtain ⟨r, hrr⟩ : ∃ r, Int.tmod n 256 = r := ⟨_, rfl⟩
  rw [hrr] at r1
  obtain ⟨s, hs⟩ : ∃ s : ByteArray, s = ⟨(pr n).toArray⟩ := ⟨_, rfl⟩
  have HS := Lib.hid (show S (pr n) = .string s by rw [hs]; rfl)
  have hl := list_of hs
  have hlen : s.size ≤ 30 := by rw [size_of hs]; exact pr_len n hn
  obtain ⟨z, hz⟩ : ∃ z : ByteArray, z = ⟨(List.replicate p 48).toArray⟩ := ⟨_, rfl⟩
  obtain ⟨y, hy⟩ : ∃ y : ByteArray, y = ⟨(List.replicate q 48).toArray⟩ := ⟨_, rfl⟩
  have zs : z.size ≤ 3 := by rw [rep_size hz]; exact p3
  have ys : y.size ≤ 3 := by rw [rep_size hy]; exact q33
  have hmod : n.natAbs % 256 = 0 ↔ Int.tmod n 256 = 0 := by rw [← Int.dvd_iff_tmod_eq_zero]; omega
  have P1 := Lib.hid (show parseV s.data.toList = .tuple #[.int .i64 n, .int .i64 0] by rw [hl]; exact pr_back n hn)
  have hul : s.data.toList = prW n.natAbs := by rw [hl]; unfold pr; rw [if_neg h0]; rfl
  have us : s.size ≤ 30 := hlen
  obtain ⟨sg, hsg⟩ : ∃ sg : ByteArray, sg = ⟨#[]⟩ := ⟨_, rfl⟩
  have sgl : sg.data.toList = [] := by rw [hsg]
  have sgs : sg.size ≤ 1 := by rw [hsg]; decide
  obtain ⟨t1, ht1⟩ : ∃ t1, sg ++ z = t1 := ⟨_, rfl⟩
  obtain ⟨t2, ht2⟩ : ∃ t2, t1 ++ s = t2 := ⟨_, rfl⟩
  have t1s : t1.size ≤ 4 := by rw [← ht1, ByteArray.size_append]; omega
  have t2s : t2.size ≤ 34 := by rw [← ht2, ByteArray.size_append]; omega
  have t2l : t2.data.toList = [] ++ (List.replicate p 48 ++ prW n.natAbs) := by rw [← ht2, cat_list, ← ht1, cat_list, sgl, rep_list hz, hul, List.append_assoc]
  have k1 : ¬ 9223372036854775807 < sg.size + z.size := by omega
  have k2 : ¬ 9223372036854775807 < t1.size + s.size := by omega
  have P2 := Lib.hid (show parseV t2.data.toList = .tuple #[.int .i64 n, .int .i64 0] by
    have hb := parse_back n p q hn p3 q33
    rw [if_neg h0] at hb
    unfold noughty at hb
    rw [if_pos (hmod.2 hr), List.append_nil] at hb
    rw [t2l]
    exact hb)
  have CZ := Lib.hid (fun w g cap => conv_noughts w g p cap z hz)
  have CY := Lib.hid (fun w g cap => conv_noughts w g q cap y hy)
  have N1 := Lib.hid hn2
  have B1 := Lib.hid (show s.size < 9223372036854775808 by omega)
  have B2 := Lib.hid (show t2.size < 9223372036854775808 by omega)
  have cc : ((0 : Int) == 0) = true := rfl
  have nn : (n == n) = true := by simp
  clear hs hl hz hy hmod hul sgl t2l hp hq h0 hr
  go_enter Tryd.func5, Tryd.ntmps5
  go_wp2_with fail
  refine (shown_any _ (by repeat (first | exact hT | refine Tab.step ?_ (by assumption)))).mono ?_
  rintro e w1 ⟨rfl, b1⟩
  go_wp2_with fail
  refine (print_any n _ N1.out (by repeat (first | exact hT | refine Tab.step ?_ (by assumption)))).mono ?_
  rintro e w2 ⟨rfl, b2⟩
  rw [HS.out]
  go_wp2_with fail
  refine (parse_any s _ B1.out).mono ?_
  rintro e w3 ⟨rfl, b3⟩
  rw [P1.out]
  have hB := (b1.trans (b2.mono b1.size)).trans (b3.mono (Nat.le_trans b1.size b2.size))
  clear b1 b2 b3
  rw [hsg] at ht1 k1
  go_wp2_with fail
  refine (noughts_any p _ p3).mono ?_
  rintro e w4 ⟨g, cap, rfl, hc, b4⟩
  have kz := CZ.out w4 g cap hc
  have hB2 := hB.trans (b4.mono hB.size)
  clear hc b4 hB
  go_wp2_with fail
  refine (parse_any t2 _ B2.out).mono ?_
  rintro e w6 ⟨rfl, b6⟩
  rw [P2.out]
  go_wp2
  go_ret
  exact ⟨rfl, hB2.trans (b6.mono hB2.size)⟩

theorem walk_FixBack (n : Int) (a b : Nat) (w : World) (hT : Tab w) (hn : -9223372036854775808 ≤ n ∧ n ≤ 9223372036854775807) (ha : a ≤ 255) (hb : b ≤ 255) :
    Calls Tryd.prog 5 #[.int .i64 n, .int .u8 a, .int .u8 b] w fun e w' => e = .returned (.bool true) ∧ Below w.heap.size w w' := by
  by_cases h : 1099511627776 < n ∨ n < -1099511627776
  · exact back_far n a b w hT hn h
  · have hn2 : -1099511627776 ≤ n ∧ n ≤ 1099511627776 := by omega
    by_cases h0 : n < 0
    · by_cases hr : Int.tmod n 256 = 0
      · exact back_negW n a b w hT hn2 ha hb h0 hr
      · exact back_negF n a b w hT hn2 ha hb h0 hr
    · by_cases hr : Int.tmod n 256 = 0
      · exact back_posW n a b w hT hn2 ha hb h0 hr
      · exact back_posF n a b w hT hn2 ha hb h0 hr
end Go.Proofs.YtflnchbamlcgaaaDoor
