/-
  The contracts of octet's writers once more, with plain numbers as arguments.
-/
import Derived.Test.YthabiaenaicppaaOctWrite3
namespace Go.Proofs.Ythabiaenaicppaa
open Go.RowKit

theorem wbyteZ (w : World) (B p : Nat) (v : Value) (l : List UInt8) (z : Int) (x : UInt8) (hz : z = (x.toNat : Int)) (h : Wr w B p v l) (hB : B ≤ w.heap.size) (hl : l.length ≤ 1000000000) :
    Calls Try.prog 22 #[.pointer (some ⟨p, 0, none⟩), .int .u8 z] w (Wrote w B p v (l ++ [x])) := by subst hz; exact wbyte w B p v l x h hB hl

theorem wbigZ (w : World) (B p : Nat) (v : Value) (l : List UInt8) (z : Int) (u : Nat) (n : Int) (hz : z = (u : Int)) (h : Wr w B p v l) (hB : B ≤ w.heap.size) (hl : l.length ≤ 1000000000) :
    Calls Try.prog 23 #[.pointer (some ⟨p, 0, none⟩), .int .u64 z, .int .i64 n] w (Wrote w B p v (l ++ putB u (cnt n))) := by subst hz; exact wbig w B p v l u n h hB hl


end Go.Proofs.Ythabiaenaicppaa
