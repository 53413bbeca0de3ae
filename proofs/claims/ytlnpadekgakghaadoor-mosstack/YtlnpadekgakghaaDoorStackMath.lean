/-
  What is pushed is pulled: of no program. No condition.
-/
import Derived.Test.YtlnpadekgakghaaDoorMosObj
import Derived.Test.YtlnpadekgakghaaDoorMosCyc
namespace Go.Proofs.YtlnpadekgakghaaDoor
open Go.RowKit
namespace Ms
set_option linter.unusedVariables false
open Al (byte of_byte)

theorem upd_same (m : Int → Int) (i v : Int) : upd m i v i = v := by unfold upd; rw [if_pos rfl]
theorem upd_other (m : Int → Int) (i v j : Int) (h : ¬ j = i) : upd m i v j = m j := by unfold upd; rw [if_neg h]

/-- A step at a known opcode. -/
theorem step_known (S : S14) (h : S.h = false) (op : Int) (ho : S.b.m S.pc = op) (hk : known op = true) : step S = done op (next S) ∧ stepN S = doneN op (next S) := by
  have hn : nextV S = op := ho
  unfold step stepN
  rw [hn]
  simp only [h, Bool.false_eq_true, if_false, if_pos hk]
  exact ⟨trivial, trivial⟩
/-- PHA. -/
theorem step_pha (a x y s p pc : Int) (m : Int → Int) (l : List (Int × Int)) (ho : m pc = 72) :
    step (⟨a, x, y, s, p, pc, false, ⟨m, l⟩⟩ : S14) = ⟨a, x, y, (s - 1) % 256, p, (pc + 1) % 65536, false, ⟨upd m (256 + s) a, l ++ [(256 + s, a)]⟩⟩ ∧ stepN (⟨a, x, y, s, p, pc, false, ⟨m, l⟩⟩ : S14) = 3 := by
  obtain ⟨h1, h2⟩ := step_known (⟨a, x, y, s, p, pc, false, ⟨m, l⟩⟩ : S14) rfl 72 ho (by decide)
  exact ⟨h1, h2⟩
/-- PLA. -/
theorem step_pla (a x y s p pc : Int) (m : Int → Int) (l : List (Int × Int)) (ho : m pc = 104) :
    step (⟨a, x, y, s, p, pc, false, ⟨m, l⟩⟩ : S14) = ⟨m (256 + (s + 1) % 256), x, y, (s + 1) % 256, zn p (m (256 + (s + 1) % 256)), (pc + 1) % 65536, false, ⟨m, l⟩⟩ ∧ stepN (⟨a, x, y, s, p, pc, false, ⟨m, l⟩⟩ : S14) = 4 := by
  obtain ⟨h1, h2⟩ := step_known (⟨a, x, y, s, p, pc, false, ⟨m, l⟩⟩ : S14) rfl 104 ho (by decide)
  exact ⟨h1, h2⟩
/-- PHP. -/
theorem step_php (a x y s p pc : Int) (m : Int → Int) (l : List (Int × Int)) (ho : m pc = 8) :
    step (⟨a, x, y, s, p, pc, false, ⟨m, l⟩⟩ : S14) = ⟨a, x, y, (s - 1) % 256, p, (pc + 1) % 65536, false, ⟨upd m (256 + s) (p + 48), l ++ [(256 + s, p + 48)]⟩⟩ ∧ stepN (⟨a, x, y, s, p, pc, false, ⟨m, l⟩⟩ : S14) = 3 := by
  obtain ⟨h1, h2⟩ := step_known (⟨a, x, y, s, p, pc, false, ⟨m, l⟩⟩ : S14) rfl 8 ho (by decide)
  exact ⟨h1, h2⟩
/-- PLP. -/
theorem step_plp (a x y s p pc : Int) (m : Int → Int) (l : List (Int × Int)) (ho : m pc = 40) :
    step (⟨a, x, y, s, p, pc, false, ⟨m, l⟩⟩ : S14) = ⟨a, x, y, (s + 1) % 256, noBU (m (256 + (s + 1) % 256)), (pc + 1) % 65536, false, ⟨m, l⟩⟩ ∧ stepN (⟨a, x, y, s, p, pc, false, ⟨m, l⟩⟩ : S14) = 4 := by
  obtain ⟨h1, h2⟩ := step_known (⟨a, x, y, s, p, pc, false, ⟨m, l⟩⟩ : S14) rfl 40 ho (by decide)
  exact ⟨h1, h2⟩
/-- JSR. -/
theorem step_jsr (a x y s p pc : Int) (m : Int → Int) (l : List (Int × Int)) (ho : m pc = 32) (h0 : 0 ≤ pc) (h1 : pc + 3 < 65536) (hs0 : 1 ≤ s) (hs1 : s < 256) :
    step (⟨a, x, y, s, p, pc, false, ⟨m, l⟩⟩ : S14) = ⟨a, x, y, ((s - 1) % 256 - 1) % 256, p, m (pc + 1) + 256 * m (pc + 2), false, ⟨upd (upd m (256 + s) ((pc + 2) / 256)) (256 + (s - 1)) ((pc + 2) % 256), l ++ [(256 + s, (pc + 2) / 256)] ++ [(256 + (s - 1), (pc + 2) % 256)]⟩⟩ ∧ stepN (⟨a, x, y, s, p, pc, false, ⟨m, l⟩⟩ : S14) = 6 := by
  obtain ⟨e1, e2⟩ := step_known (⟨a, x, y, s, p, pc, false, ⟨m, l⟩⟩ : S14) rfl 32 ho (by decide)
  have p1 : (pc + 1) % 65536 = pc + 1 := by omega
  have p2 : (pc + 1 + 1) % 65536 = pc + 2 := by omega
  have p3 : (pc + 2 + 1) % 65536 = pc + 3 := by omega
  have p4 : (pc + 3 - 1) % 65536 = pc + 2 := by omega
  have q1 : (s - 1) % 256 = s - 1 := by omega
  refine ⟨?_, e2⟩
  rw [e1]
  show withPC (pushW (word (next (⟨a, x, y, s, p, pc, false, ⟨m, l⟩⟩ : S14))) (((word (next (⟨a, x, y, s, p, pc, false, ⟨m, l⟩⟩ : S14))).pc - 1) % 65536)) (wordV (next (⟨a, x, y, s, p, pc, false, ⟨m, l⟩⟩ : S14))) = _
  have hw : word (next (⟨a, x, y, s, p, pc, false, ⟨m, l⟩⟩ : S14)) = ⟨a, x, y, s, p, pc + 3, false, ⟨m, l⟩⟩ := by
    show (⟨a, x, y, s, p, (((pc + 1) % 65536 + 1) % 65536 + 1) % 65536, false, ⟨m, l⟩⟩ : S14) = _
    rw [p1, p2, p3]
  have hv : wordV (next (⟨a, x, y, s, p, pc, false, ⟨m, l⟩⟩ : S14)) = m (pc + 1) + 256 * m (pc + 2) := by
    show m ((pc + 1) % 65536) + 256 * m (((pc + 1) % 65536 + 1) % 65536) = _
    rw [p1, p2]
  rw [hw, hv]
  show (⟨a, x, y, ((s - 1) % 256 - 1) % 256, p, m (pc + 1) + 256 * m (pc + 2), false, ⟨upd (upd m (256 + s) ((pc + 3 - 1) % 65536 / 256)) (256 + (s - 1) % 256) ((pc + 3 - 1) % 65536 % 256), l ++ [(256 + s, (pc + 3 - 1) % 65536 / 256)] ++ [(256 + (s - 1) % 256, (pc + 3 - 1) % 65536 % 256)]⟩⟩ : S14) = _
  rw [p4, q1]
/-- RTS. -/
theorem step_rts (a x y s p pc : Int) (m : Int → Int) (l : List (Int × Int)) (ho : m pc = 96) :
    step (⟨a, x, y, s, p, pc, false, ⟨m, l⟩⟩ : S14) = ⟨a, x, y, ((s + 1) % 256 + 1) % 256, p, (m (256 + (s + 1) % 256) + 256 * m (256 + ((s + 1) % 256 + 1) % 256) + 1) % 65536, false, ⟨m, l⟩⟩ ∧ stepN (⟨a, x, y, s, p, pc, false, ⟨m, l⟩⟩ : S14) = 6 := by
  obtain ⟨h1, h2⟩ := step_known (⟨a, x, y, s, p, pc, false, ⟨m, l⟩⟩ : S14) rfl 96 ho (by decide)
  exact ⟨h1, h2⟩
/-- RTI. -/
theorem step_rti (a x y s p pc : Int) (m : Int → Int) (l : List (Int × Int)) (ho : m pc = 64) :
    step (⟨a, x, y, s, p, pc, false, ⟨m, l⟩⟩ : S14) = ⟨a, x, y, (((s + 1) % 256 + 1) % 256 + 1) % 256, noBU (m (256 + (s + 1) % 256)), m (256 + ((s + 1) % 256 + 1) % 256) + 256 * m (256 + (((s + 1) % 256 + 1) % 256 + 1) % 256), false, ⟨m, l⟩⟩ ∧ stepN (⟨a, x, y, s, p, pc, false, ⟨m, l⟩⟩ : S14) = 6 := by
  obtain ⟨h1, h2⟩ := step_known (⟨a, x, y, s, p, pc, false, ⟨m, l⟩⟩ : S14) rfl 64 ho (by decide)
  exact ⟨h1, h2⟩
/-- An interrupt. -/
theorem int_at (a x y s p pc v : Int) (m : Int → Int) (l : List (Int × Int)) :
    interrupt (⟨a, x, y, s, p, pc, false, ⟨m, l⟩⟩ : S14) v = ⟨a, x, y, (((s - 1) % 256) - 1) % 256 - 1 |> (· % 256), setF p 4 true,
      (upd (upd (upd m (256 + s) (pc / 256)) (256 + (s - 1) % 256) (pc % 256)) (256 + ((s - 1) % 256 - 1) % 256) (p + 32)) v + 256 * (upd (upd (upd m (256 + s) (pc / 256)) (256 + (s - 1) % 256) (pc % 256)) (256 + ((s - 1) % 256 - 1) % 256) (p + 32)) ((v + 1) % 65536), false,
      ⟨upd (upd (upd m (256 + s) (pc / 256)) (256 + (s - 1) % 256) (pc % 256)) (256 + ((s - 1) % 256 - 1) % 256) (p + 32), l ++ [(256 + s, pc / 256)] ++ [(256 + (s - 1) % 256, pc % 256)] ++ [(256 + ((s - 1) % 256 - 1) % 256, p + 32)]⟩⟩ := rfl
/-- Stores and loads of A, X, Y at an address told whole. -/
def stA (k A X Y : Int) : Int := if k = 141 then A else if k = 142 then X else Y
theorem step_store (k a x y s p pc : Int) (m : Int → Int) (l : List (Int × Int)) (hk : k = 141 ∨ k = 142 ∨ k = 140) (ho : m pc = k) (h0 : 0 ≤ pc) (h1 : pc + 3 < 65536) :
    step (⟨a, x, y, s, p, pc, false, ⟨m, l⟩⟩ : S14) = ⟨a, x, y, s, p, pc + 3, false, ⟨upd m (m (pc + 1) + 256 * m (pc + 2)) (stA k a x y), l ++ [(m (pc + 1) + 256 * m (pc + 2), stA k a x y)]⟩⟩ ∧ stepN (⟨a, x, y, s, p, pc, false, ⟨m, l⟩⟩ : S14) = 4 := by
  have p1 : (pc + 1) % 65536 = pc + 1 := by omega
  have p2 : (pc + 1 + 1) % 65536 = pc + 2 := by omega
  have p3 : (pc + 2 + 1) % 65536 = pc + 3 := by omega
  obtain ⟨e1, e2⟩ := step_known (⟨a, x, y, s, p, pc, false, ⟨m, l⟩⟩ : S14) rfl k ho (by rcases hk with rfl | rfl | rfl <;> decide)
  have hv : wordV (next (⟨a, x, y, s, p, pc, false, ⟨m, l⟩⟩ : S14)) = m (pc + 1) + 256 * m (pc + 2) := by
    show m ((pc + 1) % 65536) + 256 * m (((pc + 1) % 65536 + 1) % 65536) = _
    rw [p1, p2]
  have hp : (((pc + 1) % 65536 + 1) % 65536 + 1) % 65536 = pc + 3 := by rw [p1, p2, p3]
  rw [e1, e2]
  rcases hk with rfl | rfl | rfl
  · refine ⟨?_, rfl⟩
    show (⟨a, x, y, s, p, (((pc + 1) % 65536 + 1) % 65536 + 1) % 65536, false, ⟨upd m (wordV (next (⟨a, x, y, s, p, pc, false, ⟨m, l⟩⟩ : S14))) a, l ++ [(wordV (next (⟨a, x, y, s, p, pc, false, ⟨m, l⟩⟩ : S14)), a)]⟩⟩ : S14) = _
    rw [hv, hp]; rfl
  · refine ⟨?_, rfl⟩
    show (⟨a, x, y, s, p, (((pc + 1) % 65536 + 1) % 65536 + 1) % 65536, false, ⟨upd m (wordV (next (⟨a, x, y, s, p, pc, false, ⟨m, l⟩⟩ : S14))) x, l ++ [(wordV (next (⟨a, x, y, s, p, pc, false, ⟨m, l⟩⟩ : S14)), x)]⟩⟩ : S14) = _
    rw [hv, hp]; rfl
  · refine ⟨?_, rfl⟩
    show (⟨a, x, y, s, p, (((pc + 1) % 65536 + 1) % 65536 + 1) % 65536, false, ⟨upd m (wordV (next (⟨a, x, y, s, p, pc, false, ⟨m, l⟩⟩ : S14))) y, l ++ [(wordV (next (⟨a, x, y, s, p, pc, false, ⟨m, l⟩⟩ : S14)), y)]⟩⟩ : S14) = _
    rw [hv, hp]; rfl
theorem step_load (k a x y s p pc : Int) (m : Int → Int) (l : List (Int × Int)) (hk : k = 173 ∨ k = 174 ∨ k = 172) (ho : m pc = k) (h0 : 0 ≤ pc) (h1 : pc + 3 < 65536) :
    step (⟨a, x, y, s, p, pc, false, ⟨m, l⟩⟩ : S14) = ⟨if k = 173 then m (m (pc + 1) + 256 * m (pc + 2)) else a, if k = 174 then m (m (pc + 1) + 256 * m (pc + 2)) else x, if k = 172 then m (m (pc + 1) + 256 * m (pc + 2)) else y, s, zn p (m (m (pc + 1) + 256 * m (pc + 2))), pc + 3, false, ⟨m, l⟩⟩ ∧ stepN (⟨a, x, y, s, p, pc, false, ⟨m, l⟩⟩ : S14) = 4 := by
  have p1 : (pc + 1) % 65536 = pc + 1 := by omega
  have p2 : (pc + 1 + 1) % 65536 = pc + 2 := by omega
  have p3 : (pc + 2 + 1) % 65536 = pc + 3 := by omega
  obtain ⟨e1, e2⟩ := step_known (⟨a, x, y, s, p, pc, false, ⟨m, l⟩⟩ : S14) rfl k ho (by rcases hk with rfl | rfl | rfl <;> decide)
  have hv : wordV (next (⟨a, x, y, s, p, pc, false, ⟨m, l⟩⟩ : S14)) = m (pc + 1) + 256 * m (pc + 2) := by
    show m ((pc + 1) % 65536) + 256 * m (((pc + 1) % 65536 + 1) % 65536) = _
    rw [p1, p2]
  have hp : (((pc + 1) % 65536 + 1) % 65536 + 1) % 65536 = pc + 3 := by rw [p1, p2, p3]
  rw [e1, e2]
  rcases hk with rfl | rfl | rfl
  · refine ⟨?_, rfl⟩
    show (⟨m (wordV (next (⟨a, x, y, s, p, pc, false, ⟨m, l⟩⟩ : S14))), x, y, s, zn p (m (wordV (next (⟨a, x, y, s, p, pc, false, ⟨m, l⟩⟩ : S14)))), (((pc + 1) % 65536 + 1) % 65536 + 1) % 65536, false, ⟨m, l⟩⟩ : S14) = _
    rw [hv, hp]; rfl
  · refine ⟨?_, rfl⟩
    show (⟨a, m (wordV (next (⟨a, x, y, s, p, pc, false, ⟨m, l⟩⟩ : S14))), y, s, zn p (m (wordV (next (⟨a, x, y, s, p, pc, false, ⟨m, l⟩⟩ : S14)))), (((pc + 1) % 65536 + 1) % 65536 + 1) % 65536, false, ⟨m, l⟩⟩ : S14) = _
    rw [hv, hp]; rfl
  · refine ⟨?_, rfl⟩
    show (⟨a, x, m (wordV (next (⟨a, x, y, s, p, pc, false, ⟨m, l⟩⟩ : S14))), s, zn p (m (wordV (next (⟨a, x, y, s, p, pc, false, ⟨m, l⟩⟩ : S14)))), (((pc + 1) % 65536 + 1) % 65536 + 1) % 65536, false, ⟨m, l⟩⟩ : S14) = _
    rw [hv, hp]; rfl

end Ms
end Go.Proofs.YtlnpadekgakghaaDoor
