/-
  Files of NES games, put together of their parts: what is told of them, in mathematics, of no program.
-/
import Derived.Test.YthabiaenaicppaaIneMath
namespace Go.Proofs.Ythabiaenaicppaa
namespace Ine

def head8 (p c f s : UInt8) : List UInt8 := [78, 69, 83, 26, p, c, f, s]
theorem head8_length (p c f s : UInt8) : (head8 p c f s).length = 8 := rfl
/-- A head whose last eight bytes are noughts. -/
def headL (p c f s : UInt8) : List UInt8 := head8 p c f s ++ List.replicate 8 0
theorem headL_length (p c f s : UInt8) : (headL p c f s).length = 16 := by simp [headL, head8]

theorem take4 (l : List UInt8) (h : 4 ≤ l.length) : l.take 4 = mark ↔ bt l 0 = 78 ∧ bt l 1 = 69 ∧ bt l 2 = 83 ∧ bt l 3 = 26 := by
  match l, h with
  | a :: b :: c :: d :: t, _ =>
    simp only [mark, bt, List.getD, List.take_succ_cons, List.take_zero, List.cons.injEq, and_true, List.getElem?_cons_zero, List.getElem?_cons_succ, Option.getD_some]
    refine ⟨fun ⟨h1, h2, h3, h4⟩ => by subst h1 h2 h3 h4; exact ⟨rfl, rfl, rfl, rfl⟩, fun ⟨h1, h2, h3, h4⟩ => ⟨?_, ?_, ?_, ?_⟩⟩
    · exact UInt8.toNat_inj.1 h1
    · exact UInt8.toNat_inj.1 h2
    · exact UInt8.toNat_inj.1 h3
    · exact UInt8.toNat_inj.1 h4

theorem bt_head (p c f s : UInt8) (r : List UInt8) : (head8 p c f s ++ r).take 4 = mark ∧ bt (head8 p c f s ++ r) 4 = p.toNat ∧ bt (head8 p c f s ++ r) 5 = c.toNat ∧ bt (head8 p c f s ++ r) 6 = f.toNat ∧ bt (head8 p c f s ++ r) 7 = s.toNat := by
  simp [head8, bt, mark, List.getD]

/-- A file of its parts. -/
theorem parts (p c f s : UInt8) (r8 gap pl cl tail : List UInt8) (h8 : r8.length = 8) (hg : gap.length = if f.toNat / 4 % 2 = 1 then 512 else 0) (hp : pl.length = p.toNat * 16384) (hc : cl.length = c.toNat * 8192) :
    cartOf (head8 p c f s ++ (r8 ++ (gap ++ (pl ++ (cl ++ tail))))) = ⟨s.toNat / 16 * 16 + f.toNat / 16, f.toNat % 2, pl, if c.toNat = 0 then blank else cl, c.toNat == 0⟩ ∧
    (p ≠ 0 → s.toNat / 4 % 4 ≠ 2 → f.toNat / 8 % 2 ≠ 1 → s.toNat / 16 * 16 + f.toNat / 16 ≤ 4 → gap.length + pl.length + cl.length + tail.length ≤ 16000000 → fault (head8 p c f s ++ (r8 ++ (gap ++ (pl ++ (cl ++ tail))))) = 0) := by
  obtain ⟨l, hl⟩ : ∃ l, l = head8 p c f s ++ (r8 ++ (gap ++ (pl ++ (cl ++ tail)))) := ⟨_, rfl⟩
  rw [← hl]
  obtain ⟨b0, b4, b5, b6, b7⟩ : l.take 4 = mark ∧ bt l 4 = p.toNat ∧ bt l 5 = c.toNat ∧ bt l 6 = f.toNat ∧ bt l 7 = s.toNat := by rw [hl]; exact bt_head p c f s _
  have hll : l.length = 16 + gap.length + pl.length + cl.length + tail.length := by rw [hl]; simp [head8_length, h8]; omega
  have hst : start l = 16 + gap.length := by unfold start; rw [b6, hg]; split <;> rfl
  have hpb : prgB l = pl.length := by unfold prgB; rw [b4, hp]
  have hcb : chrB l = cl.length := by unfold chrB; rw [b5, hc]
  have hmp : mapper l = s.toNat / 16 * 16 + f.toNat / 16 := by unfold mapper; rw [b6, b7]
  have e1 : l.drop (start l) = pl ++ (cl ++ tail) := by
    rw [hst, hl, show head8 p c f s ++ (r8 ++ (gap ++ (pl ++ (cl ++ tail)))) = (head8 p c f s ++ r8 ++ gap) ++ (pl ++ (cl ++ tail)) by simp [List.append_assoc],
      show 16 + gap.length = (head8 p c f s ++ r8 ++ gap).length by simp [head8_length, h8]; omega, List.drop_left]
  refine ⟨?_, fun k1 k2 k3 k4 k5 => ?_⟩
  · unfold cartOf
    rw [hmp, b6, ← List.drop_drop, e1, hpb, hcb, List.take_left, List.drop_left, List.take_left]
    have e2 : (cl.length = 0) = (c.toNat = 0) := by rw [hc]; simp; omega
    have e3 : (cl.length == 0) = (c.toNat == 0) := by rw [hc, Bool.eq_iff_iff]; simp; omega
    simp only [e2, e3]
  · have k1' : p.toNat ≠ 0 := fun h => k1 (UInt8.toNat_inj.1 h)
    unfold fault endAt
    rw [if_neg (by omega), if_neg (by omega), if_neg (by simpa using b0), b7, if_neg k2, b6, if_neg k3, b4, if_neg k1', hmp, if_neg (by omega), hst, hpb, hcb, if_neg (by omega)]

end Ine
end Go.Proofs.Ythabiaenaicppaa
