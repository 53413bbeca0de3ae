/-
  Bits of bytes as whole numbers: plain lemmas, of no function.
-/
import Derived.Test.YtgakdlbdbiacgaaNmObP
namespace Go.Proofs.Ytgakdlbdbiacgaa
open Go.RowKit
namespace Nm

theorem of_byte (P : Int → Prop) (h : ∀ n : Fin 256, P ((n.val : Nat) : Int)) (x : Int) (hx : byte x) : P x := by
  have := h ⟨x.toNat, by have := hx.1; have := hx.2; omega⟩
  simp only at this
  rwa [Int.toNat_of_nonneg hx.1] at this

set_option maxRecDepth 100000 in
theorem and3 : ∀ x, byte x → bits .and .u8 x 3 = x % 4 := of_byte _ (by decide +kernel)
set_option maxRecDepth 100000 in
theorem and15 : ∀ x, byte x → bits .and .u8 x 15 = x % 16 := of_byte _ (by decide +kernel)
set_option maxRecDepth 100000 in
theorem and12 : ∀ x, byte x → bits .and .u8 x 12 = x / 4 % 4 * 4 := of_byte _ (by decide +kernel)
set_option maxRecDepth 100000 in
theorem and16 : ∀ x, byte x → bits .and .u8 x 16 = x / 16 % 2 * 16 := of_byte _ (by decide +kernel)
set_option maxRecDepth 100000 in
theorem and64 : ∀ x, byte x → bits .and .u8 x 64 = x / 64 % 2 * 64 := of_byte _ (by decide +kernel)
set_option maxRecDepth 100000 in
theorem and128 : ∀ x, byte x → bits .and .u8 x 128 = x / 128 % 2 * 128 := of_byte _ (by decide +kernel)
set_option maxRecDepth 100000 in
theorem and1 : ∀ x, byte x → bits .and .u8 x 1 = x % 2 := of_byte _ (by decide +kernel)
set_option maxRecDepth 100000 in
theorem andNot1 : ∀ x, byte x → bits .andNot .u8 x 1 = x / 2 * 2 := of_byte _ (by decide +kernel)
set_option maxRecDepth 100000 in
theorem or12 : ∀ x, byte x → x < 32 → bits .or .u8 x 12 = orC x := fun x hx => of_byte (fun x => x < 32 → bits .or .u8 x 12 = orC x) (by decide +kernel) x hx
set_option maxRecDepth 100000 in
theorem or_bit (k : Nat) (hk : k < 5) : ∀ x, byte x → x < two k → ∀ b : Int, b = 0 ∨ b = 1 → bits .or .u8 x (IntKind.u8.wrap (b * 2 ^ k)) = x + b * two k := by
  intro x hx hl b hb
  have h : ∀ k : Fin 5, ∀ n : Fin 256, ((n.val : Nat) : Int) < two k.val → bits .or .u8 ((n.val : Nat) : Int) (IntKind.u8.wrap (0 * 2 ^ k.val)) = ((n.val : Nat) : Int) + 0 * two k.val ∧ bits .or .u8 ((n.val : Nat) : Int) (IntKind.u8.wrap (1 * 2 ^ k.val)) = ((n.val : Nat) : Int) + 1 * two k.val := by decide +kernel
  have := of_byte (fun x => x < two k → bits .or .u8 x (IntKind.u8.wrap (0 * 2 ^ k)) = x + 0 * two k ∧ bits .or .u8 x (IntKind.u8.wrap (1 * 2 ^ k)) = x + 1 * two k) (h ⟨k, hk⟩) x hx hl
  rcases hb with rfl | rfl
  · exact this.1
  · exact this.2

end Nm
end Go.Proofs.Ytgakdlbdbiacgaa
