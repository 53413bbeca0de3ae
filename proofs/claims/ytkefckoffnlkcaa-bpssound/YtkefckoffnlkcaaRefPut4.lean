/-
  Contract of the document's own Put of layer 1, of a sum's four bytes.
-/
import Derived.Test.YtkefckoffnlkcaaOctRefPut
import Derived.Test.YtkefckoffnlkcaaSumWord
namespace Go.Proofs.Ytkefckoffnlkcaa
open Go.RowKit
namespace Ups

theorem rput4 (w : World) (d : BitVec 32) : Calls Try.prog 17 #[.int .u64 (Crc.u d), .int .i64 4, .bool false] w fun e w' => ∃ A c, e = .returned (.slice A 4 c) ∧ Own w' w.heap.size (.slice A 4 c) (le4 d) ∧ Fr [] w w' := by
  have h := Ref.put_little w d.toNat 4 (by have := d.isLt; omega)
  have e : putL d.toNat (Ref.cnt 4) = le4 d := putL4 d
  rw [e] at h
  exact h

end Ups
end Go.Proofs.Ytkefckoffnlkcaa
