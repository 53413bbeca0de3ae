/-
  Low bits of a byte: plain mathematics; what the walks of picklocklaw09.InesBuilds stand on.
-/
import Derived.Test.YthabiaenaicppaaIneParseCt
import Derived.Test.YthabiaenaicppaaIneMay
import Derived.Test.YthabiaenaicppaaOctSame
import Derived.Deep.RegionHeld3
import Derived.Deep.DeepCutAuto
namespace Go.Proofs.Ythabiaenaicppaa
open Go.RowKit
namespace Ine

set_option maxRecDepth 100000 in
theorem and3 : ∀ n : Fin 256, (n.val &&& 3) = n.val % 4 := by decide
theorem low3 (x : UInt8) : bits .and .u8 (x.toNat : Int) 3 = ((x.toNat % 4 : Nat) : Int) := by
  have h := u8_and_nat x.toNat 3 x.toNat_lt (by omega)
  have e := and3 ⟨x.toNat, x.toNat_lt⟩
  simp only at e
  rw [e] at h
  exact h
theorem mid3 (x : UInt8) : bits .and .u8 ((x.toNat : Int) / 4) 3 = ((x.toNat / 4 % 4 : Nat) : Int) := by
  have hx := x.toNat_lt
  have h := u8_and_nat (x.toNat / 4) 3 (by omega) (by omega)
  have e := and3 ⟨x.toNat / 4, by omega⟩
  simp only at e
  rw [e] at h
  exact h

theorem int_dec (n : Nat) : ((n : Int) == 0) = decide (n = 0) := by
  rw [Bool.eq_iff_iff]
  simp


end Ine
end Go.Proofs.Ythabiaenaicppaa
