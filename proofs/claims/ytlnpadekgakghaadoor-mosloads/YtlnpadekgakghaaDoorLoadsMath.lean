/-
  For MosLoads: the program of eighteen bytes that the law lays, and what its six steps do: of no program. No condition.
-/
import Derived.Test.YtlnpadekgakghaaDoorStackMath
namespace Go.Proofs.YtlnpadekgakghaaDoor
open Go.RowKit
namespace Ms
set_option linter.unusedVariables false
open Al (byte of_byte)

/-- The law's opcodes: of the round i, what stores and what loads. -/
def stOp (i : Int) : Int := if i = 0 then 141 else if i = 1 then 142 else 140
def ldOp (i : Int) : Int := if i = 0 then 173 else if i = 1 then 174 else 172
/-- The bytes of the first i rounds lie from 8000 on, with A as their address. -/
def LCode (m : Int → Int) (A i : Int) : Prop :=
  ∀ j, 0 ≤ j → j < i → m (32768 + 6 * j) = stOp j ∧ m (32768 + 6 * j + 1) = A % 256 ∧ m (32768 + 6 * j + 2) = A / 256 ∧
    m (32768 + 6 * j + 3) = ldOp j ∧ m (32768 + 6 * j + 3 + 1) = A % 256 ∧ m (32768 + 6 * j + 3 + 2) = A / 256
theorem LCode.zero (m : Int → Int) (A : Int) : LCode m A 0 := fun j h0 h1 => by omega
/-- A byte of the first half is set. -/
theorem LCode.low {m : Int → Int} {A i : Int} (h : LCode m A i) (b v : Int) (hb : b < 32768) : LCode (upd m b v) A i := by
  intro j h0 h1
  have := h j h0 h1
  rw [upd_other _ _ _ _ (by omega), upd_other _ _ _ _ (by omega), upd_other _ _ _ _ (by omega), upd_other _ _ _ _ (by omega), upd_other _ _ _ _ (by omega), upd_other _ _ _ _ (by omega)]
  exact this
/-- One round of the first loop. -/
theorem LCode.round {m : Int → Int} {A i t : Int} (h : LCode m A i) (h0 : 0 ≤ i) (ht : t = 32768 + 6 * i) :
    LCode (upd (upd (upd (upd (upd (upd m t (stOp i)) (t + 1) (A % 256)) (t + 2) (A / 256)) (t + 3) (ldOp i)) (t + 4) (A % 256)) (t + 5) (A / 256)) A (i + 1) := by
  subst ht
  intro j h1 h2
  by_cases hj : j = i
  · subst hj
    refine ⟨?_, ?_, ?_, ?_, ?_, ?_⟩
    · rw [upd_other _ _ _ _ (by omega), upd_other _ _ _ _ (by omega), upd_other _ _ _ _ (by omega), upd_other _ _ _ _ (by omega), upd_other _ _ _ _ (by omega), upd_same]
    · rw [upd_other _ _ _ _ (by omega), upd_other _ _ _ _ (by omega), upd_other _ _ _ _ (by omega), upd_other _ _ _ _ (by omega), upd_same]
    · rw [upd_other _ _ _ _ (by omega), upd_other _ _ _ _ (by omega), upd_other _ _ _ _ (by omega), upd_same]
    · rw [upd_other _ _ _ _ (by omega), upd_other _ _ _ _ (by omega), upd_same]
    · rw [show 32768 + 6 * j + 3 + 1 = 32768 + 6 * j + 4 by omega, upd_other _ _ _ _ (by omega), upd_same]
    · rw [show 32768 + 6 * j + 3 + 2 = 32768 + 6 * j + 5 by omega, upd_same]
  · have := h j h1 (by omega)
    have u : ∀ (f : Int → Int) (b v c : Int), c < 32768 + 6 * i → 32768 + 6 * i ≤ b → upd f b v c = f c := fun f b v c h3 h4 => upd_other _ _ _ _ (by omega)
    refine ⟨?_, ?_, ?_, ?_, ?_, ?_⟩ <;>
    · rw [u _ _ _ _ (by omega) (by omega), u _ _ _ _ (by omega) (by omega), u _ _ _ _ (by omega) (by omega), u _ _ _ _ (by omega) (by omega), u _ _ _ _ (by omega) (by omega), u _ _ _ _ (by omega) (by omega)]
      first | exact this.1 | exact this.2.1 | exact this.2.2.1 | exact this.2.2.2.1 | exact this.2.2.2.2.1 | exact this.2.2.2.2.2

/-- A store of the law's. -/
theorem st_at (k a x y s p pc A : Int) (m : Int → Int) (l : List (Int × Int)) (hk : k = 141 ∨ k = 142 ∨ k = 140) (ho : m pc = k) (h1 : m (pc + 1) = A % 256) (h2 : m (pc + 2) = A / 256) (h0 : 0 ≤ pc) (h3 : pc + 3 < 65536) :
    step (⟨a, x, y, s, p, pc, false, ⟨m, l⟩⟩ : S14) = ⟨a, x, y, s, p, pc + 3, false, ⟨upd m A (stA k a x y), l ++ [(A, stA k a x y)]⟩⟩ ∧ stepN (⟨a, x, y, s, p, pc, false, ⟨m, l⟩⟩ : S14) = 4 := by
  have h := step_store k a x y s p pc m l hk ho h0 h3
  rw [h1, h2, show A % 256 + 256 * (A / 256) = A by omega] at h
  exact h
/-- A load of the law's. -/
theorem ld_at (k a x y s p pc A u : Int) (m : Int → Int) (l : List (Int × Int)) (hk : k = 173 ∨ k = 174 ∨ k = 172) (ho : m pc = k) (h1 : m (pc + 1) = A % 256) (h2 : m (pc + 2) = A / 256) (h4 : m A = u) (h0 : 0 ≤ pc) (h3 : pc + 3 < 65536) :
    step (⟨a, x, y, s, p, pc, false, ⟨m, l⟩⟩ : S14) = ⟨if k = 173 then u else a, if k = 174 then u else x, if k = 172 then u else y, s, zn p u, pc + 3, false, ⟨m, l⟩⟩ ∧ stepN (⟨a, x, y, s, p, pc, false, ⟨m, l⟩⟩ : S14) = 4 := by
  have h := step_load k a x y s p pc m l hk ho h0 h3
  rw [h1, h2, show A % 256 + 256 * (A / 256) = A by omega, h4] at h
  exact h

/-- One round of the second loop's two steps: the register of the round is stored, the byte is changed to u, and loaded again. -/
theorem loads_round (i a x y s p A v u : Int) (m : Int → Int) (l l' : List (Int × Int)) (hi : i = 0 ∨ i = 1 ∨ i = 2) (hc : LCode m A 3) (hA : A < 32768) (hv : stA (stOp i) a x y = v) :
    (step (⟨a, x, y, s, p, 32768 + 6 * i, false, ⟨m, l⟩⟩ : S14) = ⟨a, x, y, s, p, 32768 + 6 * i + 3, false, ⟨upd m A v, l ++ [(A, v)]⟩⟩ ∧ stepN (⟨a, x, y, s, p, 32768 + 6 * i, false, ⟨m, l⟩⟩ : S14) = 4) ∧
    (step (⟨a, x, y, s, p, 32768 + 6 * i + 3, false, ⟨upd (upd m A v) A u, l'⟩⟩ : S14) = ⟨if i = 0 then u else a, if i = 1 then u else x, if i = 2 then u else y, s, zn p u, 32768 + 6 * i + 3 + 3, false, ⟨upd (upd m A v) A u, l'⟩⟩ ∧ stepN (⟨a, x, y, s, p, 32768 + 6 * i + 3, false, ⟨upd (upd m A v) A u, l'⟩⟩ : S14) = 4) := by
  obtain ⟨c0, c1, c2, -, -, -⟩ := hc i (by omega) (by omega)
  obtain ⟨-, -, -, c3, c4, c5⟩ := ((hc.low A v hA).low A u hA) i (by omega) (by omega)
  have h1 := st_at (stOp i) a x y s p (32768 + 6 * i) A m l (by rcases hi with rfl | rfl | rfl <;> decide) c0 c1 c2 (by omega) (by omega)
  have h2 := ld_at (ldOp i) a x y s p (32768 + 6 * i + 3) A u (upd (upd m A v) A u) l' (by rcases hi with rfl | rfl | rfl <;> decide) c3 c4 c5 (upd_same _ _ _) (by omega) (by omega)
  rw [hv] at h1
  refine ⟨h1, ?_⟩
  rcases hi with rfl | rfl | rfl
  · exact h2
  · exact h2
  · exact h2

end Ms
end Go.Proofs.YtlnpadekgakghaaDoor
