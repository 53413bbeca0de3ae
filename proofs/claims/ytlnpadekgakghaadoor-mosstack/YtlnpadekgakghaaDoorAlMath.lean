/-
  What the alu tells, in plain whole numbers: of no program. No condition.
-/
import Derived.Test.YtlnpadekgakghaaDoorBase
import Derived.Laws.Bits
import Derived.Laws.BitsLemmas
import Derived.OpenShut
namespace Go.Proofs.YtlnpadekgakghaaDoor
open Go.RowKit Go.WideShapes Go.ChangeShapes
namespace Al

def byte (x : Int) : Prop := 0 ≤ x ∧ x < 256
theorem u8_of {n : Int} (h : (Lit.int .u8 n).wf = true) : byte n := by
  have := bounds_u8 h
  exact ⟨this.1, by omega⟩
theorem of_byte (P : Int → Prop) (h : ∀ n : Fin 256, P ((n.val : Nat) : Int)) (x : Int) (hx : byte x) : P x := by
  have := h ⟨x.toNat, by have := hx.1; have := hx.2; omega⟩
  simp only at this
  rwa [Int.toNat_of_nonneg hx.1] at this

/-- One, if something is so. -/
def tr (c : Bool) : Int := if c then 1 else 0
/-- A byte as a number from -128 to 127. -/
def sg (v : Int) : Int := if 128 ≤ v then v - 256 else v
/-- None of -128 to 127. -/
def far (x : Int) : Bool := decide (x < -128 ∨ 127 < x)

def addR (a v : Int) (c : Bool) : Int := (a + v + tr c) % 256
def addC (a v : Int) (c : Bool) : Bool := decide (256 ≤ a + v + tr c)
def addO (a v : Int) (c : Bool) : Bool := far (sg a + sg v + tr c)
def subR (a v : Int) (c : Bool) : Int := (a - v - 1 + tr c + 256) % 256
def subC (a v : Int) (c : Bool) : Bool := decide (0 ≤ a - v - 1 + tr c)
def subO (a v : Int) (c : Bool) : Bool := far (sg a - sg v - 1 + tr c)
def cmpC (a v : Int) : Bool := decide (v ≤ a)
def cmpZ (a v : Int) : Bool := a == v
def cmpN (a v : Int) : Bool := decide (128 ≤ (a - v) % 256)
def leftR (v : Int) (c : Bool) : Int := (2 * v + tr c) % 256
def leftC (v : Int) : Bool := decide (128 ≤ v)
def rightR (v : Int) (c : Bool) : Int := v / 2 + 128 * tr c
def rightC (v : Int) : Bool := v % 2 == 1
def bitZ (a v : Int) : Bool := bits .and .u8 a v == 0
def bitN (v : Int) : Bool := decide (128 ≤ v)
def bitO (v : Int) : Bool := v / 64 % 2 == 1

theorem tr_bd (c : Bool) : 0 ≤ tr c ∧ tr c ≤ 1 := by cases c <;> decide
theorem tr_not (c : Bool) : tr (!c) = 1 - tr c := by cases c <;> decide
theorem sg_bd (v : Int) (h : byte v) : -128 ≤ sg v ∧ sg v ≤ 127 := by
  obtain ⟨h0, h1⟩ := h
  unfold sg
  split <;> omega
theorem sg_turn (v : Int) (h : byte v) : sg (255 - v) = -1 - sg v := by
  obtain ⟨h0, h1⟩ := h
  unfold sg
  split <;> split <;> omega
theorem turn_byte (v : Int) (h : byte v) : byte (255 - v) := ⟨by have := h.2; omega, by have := h.1; omega⟩
theorem addR_byte (a v : Int) (c : Bool) : byte (addR a v c) := by unfold addR; exact ⟨by omega, by omega⟩
theorem subR_byte (a v : Int) (c : Bool) : byte (subR a v c) := by unfold subR; exact ⟨by omega, by omega⟩
theorem leftR_byte (v : Int) (c : Bool) : byte (leftR v c) := by unfold leftR; exact ⟨by omega, by omega⟩
theorem rightR_byte (v : Int) (c : Bool) (h : byte v) : byte (rightR v c) := by
  obtain ⟨h0, h1⟩ := h
  obtain ⟨t0, t1⟩ := tr_bd c
  unfold rightR
  exact ⟨by omega, by omega⟩

/-- A difference is the sum with all bits turned. -/
theorem addR_turn (a v : Int) (c : Bool) : addR a (255 - v) c = subR a v c := by
  unfold addR subR
  congr 1
  omega
theorem addC_turn (a v : Int) (c : Bool) : addC a (255 - v) c = subC a v c := by
  unfold addC subC
  simp only [decide_eq_decide]
  omega
theorem addO_turn (a v : Int) (c : Bool) (hv : byte v) : addO a (255 - v) c = subO a v c := by
  unfold addO subO far
  rw [sg_turn v hv]
  simp only [decide_eq_decide]
  omega
/-- What was added is taken away again, with the carries turned round. -/
theorem back_R (a v : Int) (c : Bool) (ha : byte a) : subR (addR a v c) v (!c) = a := by
  obtain ⟨h0, h1⟩ := ha
  unfold subR addR
  rw [tr_not]
  omega
theorem back_C (a v : Int) (c : Bool) (ha : byte a) (hv : byte v) : subC (addR a v c) v (!c) = !addC a v c := by
  obtain ⟨h0, h1⟩ := ha
  obtain ⟨v0, v1⟩ := hv
  obtain ⟨t0, t1⟩ := tr_bd c
  unfold subC addR addC
  rw [tr_not, ← decide_not, decide_eq_decide]
  omega
theorem sub_cmpC (a v : Int) : subC a v true = cmpC a v := by
  unfold subC cmpC tr
  simp only [if_pos, decide_eq_decide]
  omega
theorem sub_cmpZ (a v : Int) (ha : byte a) (hv : byte v) : (subR a v true == 0) = cmpZ a v := by
  obtain ⟨h0, h1⟩ := ha
  obtain ⟨v0, v1⟩ := hv
  unfold subR cmpZ tr
  rw [Bool.eq_iff_iff]
  simp only [if_pos, beq_iff_eq]
  omega
theorem sub_cmpN (a v : Int) : bitN (subR a v true) = cmpN a v := by
  unfold subR cmpN bitN tr
  simp only [if_pos, decide_eq_decide]
  omega
/-- One to the right takes one to the left back. -/
theorem right_left (v : Int) (c : Bool) (hv : byte v) : rightR (leftR v c) (leftC v) = v ∧ rightC (leftR v c) = c := by
  obtain ⟨v0, v1⟩ := hv
  unfold rightR leftR leftC rightC
  by_cases h : 128 ≤ v
  · cases c
    · simp only [decide_eq_true h, tr, if_pos, Bool.false_eq_true, if_false]
      exact ⟨by omega, by simp <;> omega⟩
    · simp only [decide_eq_true h, tr, if_pos]
      exact ⟨by omega, by simp <;> omega⟩
  · cases c
    · simp only [decide_eq_false h, tr, Bool.false_eq_true, if_false]
      exact ⟨by omega, by simp <;> omega⟩
    · simp only [decide_eq_false h, tr, Bool.false_eq_true, if_false, if_pos]
      exact ⟨by omega, by simp <;> omega⟩

end Al
end Go.Proofs.YtlnpadekgakghaaDoor
