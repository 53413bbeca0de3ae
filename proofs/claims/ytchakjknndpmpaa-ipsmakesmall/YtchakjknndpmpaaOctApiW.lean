/-
  The contracts of octet's writers once more, with plain numbers as arguments.
-/
import Derived.Test.YtchakjknndpmpaaOctWrite3
namespace Go.Proofs.Ytchakjknndpmpaa
open Go.RowKit

theorem wbigZ (w : World) (B p : Nat) (v : Value) (l : List UInt8) (z : Int) (u : Nat) (n : Int) (hz : z = (u : Int)) (h : Wr w B p v l) (hB : B ≤ w.heap.size) (hl : l.length ≤ 1000000000) :
    Calls Try.prog 19 #[.pointer (some ⟨p, 0, none⟩), .int .u64 z, .int .i64 n] w (Wrote w B p v (l ++ putB u (cnt n))) := by subst hz; exact wbig w B p v l u n h hB hl

end Go.Proofs.Ytchakjknndpmpaa
