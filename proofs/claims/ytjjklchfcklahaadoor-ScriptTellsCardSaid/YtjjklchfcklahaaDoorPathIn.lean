/- A path that came in. -/
import Derived.Test.YtjjklchfcklahaaDoorRef7B
import Derived.Test.YtjjklchfcklahaaDoorPthT
namespace Go.Proofs.YtjjklchfcklahaaDoor
open Go.RowKit
set_option linter.unusedVariables false
set_option linter.unusedSimpArgs false

structure PathIn (w : World) (A B : Option Addr) (cv cp : Nat) (vs : List Int) (ps : List Pnt) : Prop where
  lv : vs.length ≤ cv
  mv : cv ≤ 9223372036854775807
  nv : A = none → cv = 0
  rv : Vals w w.heap.size A (vs.map iV)
  lp : ps.length ≤ cp
  mp : cp ≤ 9223372036854775807
  np : B = none → cp = 0
  rp : Cor w w.heap.size B ps
  tb : Tab7 w
theorem PathIn.calls {w w' : World} {A B : Option Addr} {cv cp : Nat} {vs : List Int} {ps : List Pnt} (h : PathIn w A B cv cp vs ps) (hb : Below w.heap.size w w') : PathIn w' A B cv cp vs ps :=
  ⟨h.lv, h.mv, h.nv, h.rv.calls hb, h.lp, h.mp, h.np, (h.rp.step hb).more hb.size, h.tb.step hb⟩
end Go.Proofs.YtjjklchfcklahaaDoor
