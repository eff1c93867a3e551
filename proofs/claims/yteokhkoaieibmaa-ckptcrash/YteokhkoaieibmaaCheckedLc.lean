-- MADE BY PROGRAM (prog-in-parts.mjs) out of YteokhkoaieibmaaProg.lean: the load's constants.
import Derived.LoadGo3
namespace Go.Proofs
set_option maxHeartbeats 4000000 in      -- a large cut (87 functions, in a trial) ran out of the default 200,000 here: '(deterministic) timeout at whnf'
load_go_consts "../../toys/yteokhkoaieibmaa/yteokhkoaieibmaa.cut.gsa" as Try
end Go.Proofs
