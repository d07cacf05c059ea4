/- What the program's own layer 3 answers: floor_any, round_any, scale_any, near_any (FixA), print_any (FixB), parse_any (FixF). -/
import Derived.Test.YtflnchbamlcgaaaDoorFixA
import Derived.Test.YtflnchbamlcgaaaDoorFixB
import Derived.Test.YtflnchbamlcgaaaDoorFixF
namespace Go.Proofs.YtflnchbamlcgaaaDoor
end Go.Proofs.YtflnchbamlcgaaaDoor
