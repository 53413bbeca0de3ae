/-
  Contracts of ines' faults of a file: each of the table's methods, and the table itself; what the first of them tells.
-/
import Derived.Test.YthabiaenaicppaaIneRead
import Derived.Test.YthabiaenaicppaaIneFirst
namespace Go.Proofs.Ythabiaenaicppaa
open Go.RowKit
namespace Ine

section
variable (w : World) (A : Option Addr) (n c : Nat) (l : List UInt8)

set_option maxHeartbeats 400000 in
theorem isLarge_any : Calls Try.prog 25 #[.slice A n c] w fun e w' => e = .returned (.bool (decide (16777216 < n))) ∧ Fr [] w w' := by
  have e1 : decide (16777216 < n) = decide ((16777216 : Int) < (n : Int)) := by simp only [decide_eq_decide]; omega
  rw [e1]
  clear e1
  go_enter Try.func25, Try.ntmps25
  go_wp2
  go_ret
  exact ⟨rfl, Fr.refl _ _⟩

set_option maxHeartbeats 400000 in
theorem hasNoHead_any : Calls Try.prog 26 #[.slice A n c] w fun e w' => e = .returned (.bool (decide (n < 16))) ∧ Fr [] w w' := by
  have e1 : decide (n < 16) = decide ((n : Int) < (16 : Int)) := by simp only [decide_eq_decide]; omega
  rw [e1]
  clear e1
  go_enter Try.func26, Try.ntmps26
  go_wp2
  go_ret
  exact ⟨rfl, Fr.refl _ _⟩

set_option maxHeartbeats 400000 in
theorem hasOtherName_any (hn : l.length = n) (h16 : 16 ≤ n) (hnc : n ≤ c) (hr : Rd w A l) : Calls Try.prog 27 #[.slice A n c] w fun e w' => e = .returned (.bool (!(l.take 4 == mark))) ∧ Fr [] w w' := by
  obtain ⟨b, o, rfl, hc⟩ := head_cells hr (by omega)
  have h1 := run_str (P := Try.prog) (w := w) 51 9 5 (cap := c) Try.underlying51 Try.underlying5 Try.underlying9 (rd_take hr 4)
  rw [show (l.take 4).length = 4 by simp; omega] at h1
  have h2 : (4 : Int) ≤ c := by omega
  have h3 : 4 ≤ c := by omega
  clear hr hc
  unfold mark
  go_enter Try.func27, Try.ntmps27
  go_wp2
  go_ret
  exact ⟨rfl, Fr.refl _ _⟩

set_option maxHeartbeats 400000 in
theorem hasOtherForm_any (hn : l.length = n) (h16 : 16 ≤ n) (hr : Rd w A l) : Calls Try.prog 28 #[.slice A n c] w fun e w' => e = .returned (.bool (decide (bt l 7 / 4 % 4 = 2))) ∧ Fr [] w w' := by
  obtain ⟨b, o, rfl, hc⟩ := head_cells hr (by omega)
  have c7 := hc 7 (by omega)
  have t7 : (7 : Int) < n := by omega
  have e1 : decide (bt l 7 / 4 % 4 = 2) = (bits .and .u8 (bt l 7 : Int) 12 == 8) := by
    have := s12 l 7
    rw [Bool.eq_iff_iff]
    simpa using this.symm
  rw [e1]
  clear hr hc e1
  generalize bt l 7 = x7 at *
  go_enter Try.func28, Try.ntmps28
  go_wp2
  go_ret
  exact ⟨rfl, Fr.refl _ _⟩

set_option maxHeartbeats 400000 in
theorem hasForbiddenBit_any (hn : l.length = n) (h16 : 16 ≤ n) (hr : Rd w A l) : Calls Try.prog 29 #[.slice A n c] w fun e w' => e = .returned (.bool (decide (bt l 6 / 8 % 2 = 1))) ∧ Fr [] w w' := by
  obtain ⟨b, o, rfl, hc⟩ := head_cells hr (by omega)
  have c6 := hc 6 (by omega)
  have t6 : (6 : Int) < n := by omega
  have e1 : decide (bt l 6 / 8 % 2 = 1) = !(bits .and .u8 (bt l 6 : Int) 8 == 0) := by
    have := s8 l 6
    rw [Bool.eq_iff_iff]
    simp only [decide_eq_true_eq, Bool.not_eq_true', beq_eq_false_iff_ne, ne_eq, this]
    omega
  rw [e1]
  clear hr hc e1
  generalize bt l 6 = x6 at *
  go_enter Try.func29, Try.ntmps29
  go_wp2
  go_ret
  exact ⟨rfl, Fr.refl _ _⟩

set_option maxHeartbeats 400000 in
theorem hasNoPRG_any (hn : l.length = n) (h16 : 16 ≤ n) (hr : Rd w A l) : Calls Try.prog 30 #[.slice A n c] w fun e w' => e = .returned (.bool (decide (bt l 4 = 0))) ∧ Fr [] w w' := by
  obtain ⟨b, o, rfl, hc⟩ := head_cells hr (by omega)
  have c4 := hc 4 (by omega)
  have t4 : (4 : Int) < n := by omega
  have e1 : decide (bt l 4 = 0) = ((bt l 4 : Int) == 0) := by
    rw [Bool.eq_iff_iff]
    simp
  rw [e1]
  clear hr hc e1
  generalize bt l 4 = x4 at *
  go_enter Try.func30, Try.ntmps30
  go_wp2
  go_ret
  exact ⟨rfl, Fr.refl _ _⟩

set_option maxHeartbeats 400000 in
theorem hasOtherMapper_any (hn : l.length = n) (h16 : 16 ≤ n) (hr : Rd w A l) : Calls Try.prog 31 #[.slice A n c] w fun e w' => e = .returned (.bool (decide (4 < mapper l))) ∧ Fr [] w w' := by
  have K := Lib.hid (mapper_any w A n c l hn h16 hr)
  have e1 : decide (4 < mapper l) = !(decide (0 ≤ (mapper l : Int) ∧ (mapper l : Int) ≤ 4)) := by
    rw [Bool.eq_iff_iff]
    simp only [decide_eq_true_eq, Bool.not_eq_true', decide_eq_false_iff_not]
    omega
  rw [e1]
  obtain ⟨d, hd⟩ : ∃ d, decide (0 ≤ (mapper l : Int) ∧ (mapper l : Int) ≤ 4) = d := ⟨_, rfl⟩
  have K2 : Hid (∀ W, Calls Try.prog 49 #[.int .i64 (mapper l : Int)] W fun e w' => e = .returned (.bool d) ∧ W = w') := Lib.hid fun W => by rw [← hd]; exact isKnown_any W _
  rw [hd]
  clear hr e1 hd
  generalize mapper l = m at *
  go_enter Try.func31, Try.ntmps31
  go_wp2_with (first
    | (go_at_call 33; (with_reducible refine K.out.mono ?_); rintro e w1 ⟨rfl, k, rfl⟩)
    | (go_at_call 49; (with_reducible refine (K2.out _).mono ?_); rintro e w1 ⟨rfl, rfl⟩))
  go_ret
  exact ⟨rfl, (Fr.refl _ _).drewN _⟩

set_option maxHeartbeats 400000 in
theorem isCut_any (hn : l.length = n) (h16 : 16 ≤ n) (hr : Rd w A l) : Calls Try.prog 32 #[.slice A n c] w fun e w' => e = .returned (.bool (decide (n < endAt l))) ∧ Fr [] w w' := by
  have K := Lib.hid (chrEnd_any w A n c l hn h16 hr)
  clear hr
  generalize endAt l = m at *
  go_enter Try.func32, Try.ntmps32
  go_wp2_with (first
    | (go_at_call 38; (with_reducible refine K.out.mono ?_); rintro e w1 ⟨rfl, rfl⟩))
  go_ret
  exact ⟨rfl, Fr.refl _ _⟩
end

/-- The table of a file's faults, and which of them are found. -/
def fileFs (v : Value) : List Flt :=
  [⟨25, v, 6⟩, ⟨26, v, 2⟩, ⟨27, v, 3⟩, ⟨28, v, 3⟩,
   ⟨29, v, 3⟩, ⟨30, v, 3⟩, ⟨31, v, 7⟩, ⟨32, v, 2⟩]
def fileBs (l : List UInt8) : List Bool :=
  [decide (16777216 < l.length), decide (l.length < 16), !(l.take 4 == mark), decide (bt l 7 / 4 % 4 = 2), decide (bt l 6 / 8 % 2 = 1), decide (bt l 4 = 0), decide (4 < mapper l), decide (l.length < endAt l)]

theorem told_file (v : Value) (l : List UInt8) : toldOf (fileFs v) (fileBs l) = fault l := by
  simp only [fileFs, fileBs, toldOf, fault, decide_eq_true_eq, Bool.not_eq_true', beq_eq_false_iff_ne, ne_eq]

theorem does_file (w : World) (A : Option Addr) (n c : Nat) (l : List UInt8) (hn : l.length = n) (hnc : n ≤ c) (hr : Rd w A l) : Does w (fileFs (.slice A n c)) (fileBs l) := by
  subst hn
  intro i hi hj
  have h16 : 1 < i → 16 ≤ l.length := fun h => by simpa [fileBs, List.getD] using hj 1 h
  rcases (by simp [fileFs] at hi; omega : i = 0 ∨ i = 1 ∨ i = 2 ∨ i = 3 ∨ i = 4 ∨ i = 5 ∨ i = 6 ∨ i = 7) with rfl | rfl | rfl | rfl | rfl | rfl | rfl | rfl
  · exact ⟨fun args W => enters_own Try.func25 (by kernel_rfl) (by kernel_rfl) args W, fun W hf => isLarge_any W A _ c⟩
  · exact ⟨fun args W => enters_own Try.func26 (by kernel_rfl) (by kernel_rfl) args W, fun W hf => hasNoHead_any W A _ c⟩
  · exact ⟨fun args W => enters_own Try.func27 (by kernel_rfl) (by kernel_rfl) args W, fun W hf => hasOtherName_any W A _ c l rfl (h16 (by omega)) hnc (hr.later hf (by simp))⟩
  · exact ⟨fun args W => enters_own Try.func28 (by kernel_rfl) (by kernel_rfl) args W, fun W hf => hasOtherForm_any W A _ c l rfl (h16 (by omega)) (hr.later hf (by simp))⟩
  · exact ⟨fun args W => enters_own Try.func29 (by kernel_rfl) (by kernel_rfl) args W, fun W hf => hasForbiddenBit_any W A _ c l rfl (h16 (by omega)) (hr.later hf (by simp))⟩
  · exact ⟨fun args W => enters_own Try.func30 (by kernel_rfl) (by kernel_rfl) args W, fun W hf => hasNoPRG_any W A _ c l rfl (h16 (by omega)) (hr.later hf (by simp))⟩
  · exact ⟨fun args W => enters_own Try.func31 (by kernel_rfl) (by kernel_rfl) args W, fun W hf => hasOtherMapper_any W A _ c l rfl (h16 (by omega)) (hr.later hf (by simp))⟩
  · exact ⟨fun args W => enters_own Try.func32 (by kernel_rfl) (by kernel_rfl) args W, fun W hf => isCut_any W A _ c l rfl (h16 (by omega)) (hr.later hf (by simp))⟩

set_option maxRecDepth 100000 in
set_option maxHeartbeats 1000000 in
theorem faults_any (w : World) (v : Value) : Calls Try.prog 16 #[v] w fun e w' => ∃ g, e = .returned (.slice (some ⟨g, 0, none⟩) 8 8) ∧ Tab w' g (fileFs v) ∧ Fr [] w w' := by
  have hmf : ∀ (fn : Fn) (first cap : Array Value) (w : World), (Instr.makeFunc fn first cap).run Try.prog w = .ok (.func fn first cap) w := fun _ _ _ _ => rfl
  go_enter Try.func16, Try.ntmps16
  go_wp2
  go_ret
  refine ⟨w.heap.size, rfl, ?_, (Fr.refl [] w).alloc _⟩
  intro j hj
  rcases (by simp [fileFs] at hj; omega : j = 0 ∨ j = 1 ∨ j = 2 ∨ j = 3 ∨ j = 4 ∨ j = 5 ∨ j = 6 ∨ j = 7) with rfl | rfl | rfl | rfl | rfl | rfl | rfl | rfl
  all_goals simp [fileFs]

end Ine
end Go.Proofs.Ythabiaenaicppaa
