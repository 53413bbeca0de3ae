/-
  The contracts of octet's writers once more, with plain numbers as arguments.
-/
import Derived.Test.YtokfcknfkhlmfaaOctWrite3
namespace Go.Proofs.Ytokfcknfkhlmfaa
open Go.RowKit

theorem wbyteZ (w : World) (B p : Nat) (v : Value) (l : List UInt8) (z : Int) (x : UInt8) (hz : z = (x.toNat : Int)) (h : Wr w B p v l) (hB : B ≤ w.heap.size) (hl : l.length ≤ 1000000000) :
    Calls Try.prog 32 #[.pointer (some ⟨p, 0, none⟩), .int .u8 z] w (Wrote w B p v (l ++ [x])) := by subst hz; exact wbyte w B p v l x h hB hl


theorem wlittleZ (w : World) (B p : Nat) (v : Value) (l : List UInt8) (z : Int) (u : Nat) (n : Int) (hz : z = (u : Int)) (h : Wr w B p v l) (hB : B ≤ w.heap.size) (hl : l.length ≤ 1000000000) :
    Calls Try.prog 37 #[.pointer (some ⟨p, 0, none⟩), .int .u64 z, .int .i64 n] w (Wrote w B p v (l ++ putL u (cnt n))) := by subst hz; exact wlittle w B p v l u n h hB hl

end Go.Proofs.Ytokfcknfkhlmfaa
