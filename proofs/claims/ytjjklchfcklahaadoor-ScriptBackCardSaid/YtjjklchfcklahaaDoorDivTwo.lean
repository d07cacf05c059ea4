/- Two words divided by one: what the steps of the school division come to. -/
import Derived.Test.YtjjklchfcklahaaDoorDivNum
import Derived.Lib.ItoaNum
import Derived.Laws.BitsAllLaws
import Derived.Laws.Bits64b
namespace Go.Proofs.YtjjklchfcklahaaDoor.Kn
open Go.RowKit

theorem halves (Y : Nat) : (Y : Int) = ((Y / 4294967296 : Nat) : Int) * 4294967296 + ((Y % 4294967296 : Nat) : Int) := by omega
end Go.Proofs.YtjjklchfcklahaaDoor.Kn
