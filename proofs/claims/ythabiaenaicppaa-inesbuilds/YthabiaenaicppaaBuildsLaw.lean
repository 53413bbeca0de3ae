/-
  picklocklaw09.InesBuilds returns true for every input. No condition.
-/
import Derived.Test.YthabiaenaicppaaBuildsF
import Derived.Test.YthabiaenaicppaaBuildsS
import Derived.Test.YthabiaenaicppaaBuildsB
namespace Go.Proofs.Ythabiaenaicppaa
open Go.RowKit
namespace Ine

theorem builds_walk (m r : Int) (xa xb xc xd : UInt8) (b : Bool) (w : World) :
    Calls Try.prog 5 #[.int .i64 m, .int .i64 r, .agg #[.int .u8 (xa.toNat : Int), .int .u8 (xb.toNat : Int), .int .u8 (xc.toNat : Int), .int .u8 (xd.toNat : Int), .bool b]] w fun e w' => e = .returned (.bool true) ∧ Below w.heap.size w w' := by
  cases b
  · exact builds_f m r xa xb xc xd w
  · by_cases h : xd.toNat < 16
    · exact builds_s m r xa xb xc xd w h
    · exact builds_b m r xa xb xc xd w h

end Ine
end Go.Proofs.Ythabiaenaicppaa
