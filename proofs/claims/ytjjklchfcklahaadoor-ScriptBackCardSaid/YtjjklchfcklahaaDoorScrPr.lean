/- The words of a path's text, and that joined they are the text. No program. -/
import Derived.Test.YtjjklchfcklahaaDoorRef8P
import Derived.Lib.Join
namespace Go.Proofs.YtjjklchfcklahaaDoor
set_option linter.unusedVariables false
set_option linter.unusedSimpArgs false

/-- The words of a path's text. -/
def wsP : List Int → List Pnt → List (List UInt8)
  | [], _ => []
  | v :: t, ps => [letterB v] :: ((ps.take (takesV v).toNat).flatMap (fun p => [pr p.1, pr p.2]) ++ wsP t (ps.drop (takesV v).toNat))
theorem jt_app (a b : List (List UInt8)) : Lib.joinTail [32] (a ++ b) = Lib.joinTail [32] a ++ Lib.joinTail [32] b := by unfold Lib.joinTail; rw [List.map_append, List.flatten_append]
theorem jt_cons (x : List UInt8) (b : List (List UInt8)) : Lib.joinTail [32] (x :: b) = 32 :: (x ++ Lib.joinTail [32] b) := by unfold Lib.joinTail; simp
theorem jt_pts : ∀ l : List Pnt, Lib.joinTail [32] (l.flatMap (fun p => [pr p.1, pr p.2])) = l.flatMap ptT
  | [] => rfl
  | p :: t => by
    rw [List.flatMap_cons, List.flatMap_cons, jt_app, jt_pts t]
    congr 1
    unfold ptT
    rw [jt_cons, jt_cons]
    simp [Lib.joinTail]
theorem jt_ws : ∀ (vs : List Int) (ps : List Pnt), Lib.joinTail [32] (wsP vs ps) = prS vs ps
  | [], ps => rfl
  | v :: t, ps => by
    rw [wsP, prS, jt_cons, jt_app, jt_pts, jt_ws t]
    rfl
theorem join_ws (vs : List Int) (ps : List Pnt) : Lib.join (wsP vs ps) [32] = printT vs ps := by
  unfold printT
  rw [← jt_ws]
  cases h : wsP vs ps with
  | nil => rfl
  | cons x r => rw [Lib.join_cons, jt_cons]; rfl
theorem ws_verb {vs : List Int} {ps : List Pnt} {i n : Nat} {v : Int} (hv : vs[i]? = some v) :
    wsP (vs.drop i) (ps.drop n) = [letterB v] :: (((ps.drop n).take (takesV v).toNat).flatMap (fun p => [pr p.1, pr p.2]) ++ wsP (vs.drop (i + 1)) (ps.drop (n + (takesV v).toNat))) := by
  rw [drop_at hv, wsP, List.drop_drop]
end Go.Proofs.YtjjklchfcklahaaDoor
