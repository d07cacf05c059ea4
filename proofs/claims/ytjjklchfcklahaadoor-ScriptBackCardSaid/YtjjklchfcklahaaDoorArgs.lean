/- Arguments that are slices of points; arguments of whatever types that are only read: they read again as they did. -/
import Derived.Test.YtjjklchfcklahaaDoorCorn
import Derived.Deep.SlicePairs
import Derived.ReadAgain
import Derived.ChangeSame
import Derived.ChangeOld
import Derived.Below
namespace Go.Proofs.YtjjklchfcklahaaDoor
open Go.RowKit Go.ChangeShapes Go.WideShapes Go.Deep
set_option linter.unusedVariables false
set_option linter.unusedSimpArgs false

section
variable {H : Type} {enc : TypeId × Value → H} {P : Program} {w W W' : World} {sp : Nat → Bool} {hd : Bool}
theorem args_carry (hs0 : 0 = 0) : ∀ {ts : List TypeId} {vs : List Value} {ds : List (DataW H)} {ps : List MemPlace}, DataW.TrodAll enc P W 0 sp hd ts vs ds ps → (∀ p ∈ ps, W.sameAt W' p) → DataW.TrodAll enc P W' 0 sp hd ts vs ds ps
  | [], [], [], _, h, _ => h
  | _ :: _, _ :: _, _ :: _, _, ⟨p, q, ⟨n, h1⟩, h2, e⟩, hs => ⟨p, q, ⟨n, DataW.trod_carry n _ _ _ h1 fun x hx => hs x (by rw [e]; exact List.mem_append_left _ hx)⟩, args_carry hs0 h2 (fun x hx => hs x (by rw [e]; exact List.mem_append_right _ hx)), e⟩
/-- What came in reads again as it did, where only new memory was written. -/
theorem args_again (hl : laidOutB P = true) (hm : mapsRowed P = true)
    (hf : ((List.range P.types.size).all fun t => match P.underlying t with | some (.slice e) => decide (0 < P.cellsOf e) | _ => true) = true)
    {ts : List TypeId} {vs : List Value} {ds : List (DataW H)} {ps : List MemPlace} (hT : ∀ t ∈ ts, t < P.types.size)
    (h : DataW.TrodAll enc P W 0 (fun _ => true) true ts vs ds ps) (hb : Below W.heap.size W W') :
    DataW.TrodAll enc P W' 0 (fun b => decide (b < W.heap.size)) true ts vs ds ps :=
  have hlt := DataW.TrodAll.lt h
  args_carry rfl (DataW.TrodAll.respare (kids_rows hl hm) (fun t e ht hu => slices_full_of P hf t e ht hu) hT h (fun p hp => decide_eq_true (hlt p hp))) (fun p hp => hb.same (hlt p hp))
end
end Go.Proofs.YtjjklchfcklahaaDoor
