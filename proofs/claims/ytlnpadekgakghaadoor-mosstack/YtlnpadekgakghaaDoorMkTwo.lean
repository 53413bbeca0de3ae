/-
  Branches, and two machines of the program side by side. No condition.
-/
import Derived.Test.YtlnpadekgakghaaDoorFlagsLaw
namespace Go.Proofs.YtlnpadekgakghaaDoor
open Go.RowKit
namespace Ms
set_option linter.unusedVariables false
open Al (byte of_byte)

theorem ProgAt.apart2 {w : World} {B p f p' f' : Nat} {v : Value} {S S' : S14} (h : ProgAt w B p f v S) (h' : ProgAt w B p' f' nil0 S') (hp : p ≠ p') (hf : f ≠ f') : ∀ k ∈ pfoot p f v, k ∉ pfoot p' f' nil0 := by
  obtain ⟨cs, hb, -, -⟩ := h.flat
  obtain ⟨ds, hd, -, -⟩ := h'.flat
  intro k hk hm
  simp only [pfoot, nil0, Value.ownBlock, List.mem_cons, Option.mem_toList, Option.toList_none, List.not_mem_nil, or_false] at hk hm
  rcases hk with rfl | rfl | hk
  · rcases hm with e | e
    · exact hp e
    · subst e; exact h.cpu.other hd (by decide) rfl
  · rcases hm with e | e
    · subst e; exact hb.other h'.cpu (by decide) rfl
    · exact hf e
  · rcases hm with e | e
    · subst e; exact h.row.other h'.cpu (by decide) hk
    · subst e; exact h.row.other hd (by decide) hk

theorem or16 : ∀ v, byte v → bits .or .u8 16 (IntKind.u8.wrap (bits .and .u8 v 3 * 64)) = 16 + 64 * (v % 4) := of_byte _ (by decide +kernel)
theorem or32 : ∀ v, byte v → bits .or .u8 (16 + 64 * (v % 4)) 32 = 48 + 64 * (v % 4) := of_byte _ (by decide +kernel)
theorem and3 : ∀ v, byte v → bits .and .u8 v 3 = v % 4 := of_byte _ (by decide +kernel)

/-- What a branch leaves. -/
theorem branch_step (a x y s p pc k bb : Int) (m : Int → Int) (must : Bool) (op : Int) (hpc : u16 pc) (hk : 0 ≤ k ∧ k < 4) (hop : op = (if must then 48 else 16) + 64 * k) :
    step (⟨a, x, y, s, p, pc, false, ⟨upd (upd m pc op) ((pc + 1) % 65536) bb, []⟩⟩ : S14) = ⟨a, x, y, s, p, if on p (flagOf k) = must then ((pc + 2) % 65536 + Al.sg bb) % 65536 else (pc + 2) % 65536, false, ⟨upd (upd m pc op) ((pc + 1) % 65536) bb, []⟩⟩ ∧
    stepN (⟨a, x, y, s, p, pc, false, ⟨upd (upd m pc op) ((pc + 1) % 65536) bb, []⟩⟩ : S14) = (if on p (flagOf k) = must then (if ((pc + 2) % 65536 + Al.sg bb) % 65536 / 256 = (pc + 2) % 65536 / 256 then 3 else 4) else 2) ∧ known op = true := by
  have h2 : ((pc + 1) % 65536 + 1) % 65536 = (pc + 2) % 65536 := by omega
  have hne : ¬ pc = (pc + 1) % 65536 := by have := hpc.1; have := hpc.2; omega
  have hm1 : upd (upd m pc op) ((pc + 1) % 65536) bb pc = op := by unfold upd; rw [if_neg hne, if_pos rfl]
  have hm2 : upd (upd m pc op) ((pc + 1) % 65536) bb ((pc + 1) % 65536) = bb := by unfold upd; rw [if_pos rfl]
  generalize hM : upd (upd m pc op) ((pc + 1) % 65536) bb = M at *
  have hkn : known op = true ∧ op % 4 = 0 ∧ op / 4 % 8 = 4 ∧ op / 32 / 2 = k ∧ (op / 32 % 2 == 1) = must := by
    obtain rfl | rfl | rfl | rfl : k = 0 ∨ k = 1 ∨ k = 2 ∨ k = 3 := by omega
    all_goals cases must <;> subst hop <;> decide
  obtain ⟨k1, k2, k3, k4, k5⟩ := hkn
  have e1 : step (⟨a, x, y, s, p, pc, false, ⟨M, []⟩⟩ : S14) = branch k must (next (⟨a, x, y, s, p, pc, false, ⟨M, []⟩⟩ : S14)) := by
    have : step (⟨a, x, y, s, p, pc, false, ⟨M, []⟩⟩ : S14) = if known (M pc) then done (M pc) (next (⟨a, x, y, s, p, pc, false, ⟨M, []⟩⟩ : S14)) else _ := rfl
    rw [this, hm1, if_pos k1]
    unfold done third
    rw [if_pos k2, if_pos k3, k4, k5]
  have e2 : stepN (⟨a, x, y, s, p, pc, false, ⟨M, []⟩⟩ : S14) = branchN k must (next (⟨a, x, y, s, p, pc, false, ⟨M, []⟩⟩ : S14)) := by
    have : stepN (⟨a, x, y, s, p, pc, false, ⟨M, []⟩⟩ : S14) = if known (M pc) then doneN (M pc) (next (⟨a, x, y, s, p, pc, false, ⟨M, []⟩⟩ : S14)) else _ := rfl
    rw [this, hm1, if_pos k1]
    unfold doneN thirdN
    rw [if_pos k2, if_pos k3, k4, k5]
  have eg : goTo (next (⟨a, x, y, s, p, pc, false, ⟨M, []⟩⟩ : S14)) = ((pc + 2) % 65536 + Al.sg bb) % 65536 := by
    show (((pc + 1) % 65536 + 1) % 65536 + Al.sg (M ((pc + 1) % 65536))) % 65536 = _
    rw [h2, hm2]
  refine ⟨?_, ?_, k1⟩
  · rw [e1]
    unfold branch
    rw [eg]
    show (⟨a, x, y, s, p, if on p (flagOf k) = must then _ else ((pc + 1) % 65536 + 1) % 65536, false, ⟨M, []⟩⟩ : S14) = _
    rw [h2]
  · rw [e2]
    unfold branchN
    rw [eg]
    show (if on p (flagOf k) = must then (if _ / 256 = ((pc + 1) % 65536 + 1) % 65536 / 256 then (3 : Int) else 4) else 2) = _
    rw [h2]

end Ms
end Go.Proofs.YtlnpadekgakghaaDoor
