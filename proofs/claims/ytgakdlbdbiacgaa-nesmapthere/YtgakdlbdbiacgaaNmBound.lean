/-
  Places that there are: bounds of what a state tells. Condition: the state is one that there is.
-/
import Derived.Test.YtgakdlbdbiacgaaNmMath
namespace Go.Proofs.Ytgakdlbdbiacgaa
namespace Nm

theorem page_bd (S : St) (a : Int) (hO : Ok S) (ha : 32768 ≤ a) : 0 ≤ pageOf S a ∧ pageOf S a < S.pg := by
  unfold pageOf
  rw [if_neg (by omega)]
  have hg := hO.pg
  exact ⟨Int.emod_nonneg _ (by omega), Int.emod_lt_of_pos _ (pg_pos S hO)⟩
theorem page_lo (S : St) (a : Int) (ha : a < 32768) : pageOf S a = -1 ∧ prgOf S a = -1 := by
  unfold prgOf pageOf
  rw [if_pos ha, if_pos ha]
  exact ⟨rfl, rfl⟩
theorem prg_eq (S : St) (a : Int) (ha : 32768 ≤ a) : prgOf S a = pageOf S a * 8192 + a % 8192 := by
  unfold prgOf
  rw [if_neg (by omega)]
theorem page_start (S : St) (a : Int) (ha : 32768 ≤ a) : pageOf S (a / 8192 * 8192) = pageOf S a := by
  unfold pageOf
  rw [if_neg (by omega), if_neg (by omega), show a / 8192 * 8192 / 8192 = a / 8192 from by omega]
theorem chr_bd (S : St) (a : Int) (hO : Ok S) : 0 ≤ chrOf S a ∧ chrOf S a < S.un * 1024 ∧ chrOf S a % 1024 = a % 1024 := by
  have hg := hO.un
  have h0 := Int.emod_nonneg (unit S (a / 1024 % 8)) (show S.un ≠ 0 by omega)
  have h1 := Int.emod_lt_of_pos (unit S (a / 1024 % 8)) (un_pos S hO)
  unfold chrOf
  omega
theorem chr_same (S : St) (a b : Int) (h : a % 8192 = b % 8192) : chrOf S a = chrOf S b := by
  unfold chrOf
  rw [show a / 1024 % 8 = b / 1024 % 8 from by omega, show a % 1024 = b % 1024 from by omega]

end Nm
end Go.Proofs.Ytgakdlbdbiacgaa
