/-
  Contracts of ines' faults of a cart, of stored and flags.
-/
import Derived.Test.YthabiaenaicppaaIneTold
namespace Go.Proofs.Ythabiaenaicppaa
open Go.RowKit
namespace Ine

/-- A cart that is handed in. -/
def cV (m r : Int) (P : Option Addr) (np cp : Nat) (C : Option Addr) (nc cc : Nat) (ram : Bool) : Value := .agg #[.int .i64 m, .int .i64 r, .slice P np cp, .slice C nc cc, .bool ram]

section
variable (w : World) (m r : Int) (P : Option Addr) (np cp : Nat) (C : Option Addr) (nc cc : Nat) (ram : Bool)

set_option maxHeartbeats 400000 in
theorem cMapper_any : Calls Try.prog 41 #[cV m r P np cp C nc cc ram] w fun e w' => e = .returned (.bool (!decide (0 ≤ m ∧ m ≤ 4))) ∧ Fr [] w w' := by
  have HK := Lib.hid (fun W => isKnown_any W m)
  obtain ⟨d, hd⟩ : ∃ d, decide (0 ≤ m ∧ m ≤ 4) = d := ⟨_, rfl⟩
  rw [hd] at HK
  rw [hd]
  clear hd
  unfold cV
  go_enter Try.func41, Try.ntmps41
  go_wp2_with (go_at_call 49; (with_reducible refine (HK.out _).mono ?_); rintro e w1 ⟨rfl, rfl⟩)
  go_ret
  exact ⟨rfl, (Fr.refl [] w).alloc _⟩

set_option maxHeartbeats 400000 in
theorem cMirror_any : Calls Try.prog 42 #[cV m r P np cp C nc cc ram] w fun e w' => e = .returned (.bool (decide (¬ r = 0 ∧ ¬ r = 1))) ∧ Fr [] w w' := by
  unfold cV
  by_cases h0 : r = 0
  · subst h0
    go_enter Try.func42, Try.ntmps42
    go_wp2
    go_ret
    exact ⟨rfl, (Fr.refl [] w).alloc _⟩
  · have e0 : (r == 0) = false := by simpa using h0
    by_cases h1 : r = 1
    · subst h1
      go_enter Try.func42, Try.ntmps42
      go_wp2
      go_ret
      exact ⟨rfl, (Fr.refl [] w).alloc _⟩
    · have e1 : (r == 1) = false := by simpa using h1
      rw [show decide (¬ r = 0 ∧ ¬ r = 1) = true by simp [h0, h1]]
      go_enter Try.func42, Try.ntmps42
      go_wp2
      go_ret
      exact ⟨by simp [h0, h1], (Fr.refl [] w).alloc _⟩

set_option maxHeartbeats 400000 in
theorem cPRG_any (hn : np ≤ 1000000000) : Calls Try.prog 43 #[cV m r P np cp C nc cc ram] w fun e w' => e = .returned (.bool (!toldB np 16384)) ∧ Fr [] w w' := by
  have HK := Lib.hid (fun W => isTold_any W P np cp 16384 16384 rfl (.inl rfl) hn)
  obtain ⟨d, hd⟩ : ∃ d, toldB np 16384 = d := ⟨_, rfl⟩
  rw [hd] at HK
  rw [hd]
  clear hd hn
  unfold cV
  go_enter Try.func43, Try.ntmps43
  go_wp2_with (go_at_call 51; (with_reducible refine (HK.out _).mono ?_); rintro e w1 ⟨rfl, rfl⟩)
  go_ret
  exact ⟨rfl, (Fr.refl [] w).alloc _⟩

set_option maxHeartbeats 400000 in
theorem cCHR_any (hn : nc ≤ 1000000000) : Calls Try.prog 44 #[cV m r P np cp C nc cc ram] w fun e w' => e = .returned (.bool (!ram && !toldB nc 8192)) ∧ Fr [] w w' := by
  have HK := Lib.hid (fun W => isTold_any W C nc cc 8192 8192 rfl (.inr rfl) hn)
  obtain ⟨d, hd⟩ : ∃ d, toldB nc 8192 = d := ⟨_, rfl⟩
  rw [hd] at HK
  rw [hd]
  clear hd hn
  unfold cV
  cases ram
  · go_enter Try.func44, Try.ntmps44
    go_wp2_with (go_at_call 51; (with_reducible refine (HK.out _).mono ?_); rintro e w1 ⟨rfl, rfl⟩)
    go_ret
    exact ⟨by simp, (Fr.refl [] w).alloc _⟩
  · go_enter Try.func44, Try.ntmps44
    go_wp2
    go_ret
    exact ⟨rfl, (Fr.refl [] w).alloc _⟩

set_option maxHeartbeats 400000 in
theorem cRAM_any (cl : List UInt8) (hcl : cl.length = nc) (hr : Rd w C cl) (hn : nc ≤ 1000000000) : Calls Try.prog 45 #[cV m r P np cp C nc cc ram] w fun e w' => e = .returned (.bool (ram && !blankB cl)) ∧ Fr [] w w' := by
  have HK := Lib.hid (fun W (hW : Fr [] w W) => isBlank_any W C nc cc cl hcl (hr.later hW (by simp)) hn)
  obtain ⟨d, hd⟩ : ∃ d, blankB cl = d := ⟨_, rfl⟩
  rw [hd] at HK
  rw [hd]
  clear hd hn hr hcl
  unfold cV
  cases ram
  · go_enter Try.func45, Try.ntmps45
    go_wp2
    go_ret
    exact ⟨rfl, (Fr.refl [] w).alloc _⟩
  · go_enter Try.func45, Try.ntmps45
    go_wp2_with (go_at_call 52; (with_reducible refine (HK.out _ ((Fr.refl [] w).alloc _)).mono ?_); rintro e w1 ⟨rfl, hf⟩; have HF := Lib.hid hf; clear hf)
    go_ret
    exact ⟨by simp, ((Fr.refl [] w).alloc _).tr HF.out⟩

set_option maxHeartbeats 400000 in
theorem stored_any : Calls Try.prog 19 #[cV m r P np cp C nc cc ram] w fun e w' => e = .returned (if ram then .slice none 0 0 else .slice C nc cc) ∧ Fr [] w w' := by
  unfold cV
  cases ram
  all_goals
    go_enter Try.func19, Try.ntmps19
    go_wp2
    go_ret
    exact ⟨rfl, (Fr.refl [] w).alloc _⟩

set_option maxHeartbeats 1000000 in
theorem flags_any (hm : 0 ≤ m ∧ m ≤ 4) (hr : r = 0 ∨ r = 1) : Calls Try.prog 20 #[cV m r P np cp C nc cc ram] w fun e w' => e = .returned (.tuple #[.int .u8 (m * 16 + r), .int .u8 0]) ∧ Fr [] w w' := by
  unfold cV
  rcases (by omega : m = 0 ∨ m = 1 ∨ m = 2 ∨ m = 3 ∨ m = 4) with rfl | rfl | rfl | rfl | rfl
  all_goals
    rcases hr with rfl | rfl
    all_goals
      go_enter Try.func20, Try.ntmps20
      go_wp2
      go_quiet (fail)
      go_wp2
      go_ret2
      exact ⟨rfl, ((Fr.refl [] w).alloc _).drewN _⟩
end

/-- The table of a cart's faults, and which of them are found. -/
def cartFs (v : Value) : List Flt :=
  [⟨41, v, 1⟩, ⟨42, v, 1⟩, ⟨43, v, 1⟩, ⟨44, v, 1⟩, ⟨45, v, 1⟩]
def cartBs (m r : Int) (np nc : Nat) (cl : List UInt8) (ram : Bool) : List Bool :=
  [!decide (0 ≤ m ∧ m ≤ 4), decide (¬ r = 0 ∧ ¬ r = 1), !toldB np 16384, !ram && !toldB nc 8192, ram && !blankB cl]
/-- A cart that a file has. -/
def May (m r : Int) (np nc : Nat) (cl : List UInt8) (ram : Bool) : Prop :=
  (0 ≤ m ∧ m ≤ 4) ∧ (r = 0 ∨ r = 1) ∧ toldB np 16384 = true ∧ (ram = false → toldB nc 8192 = true) ∧ (ram = true → blankB cl = true)

theorem told_cart (v : Value) (m r : Int) (np nc : Nat) (cl : List UInt8) (ram : Bool) : (May m r np nc cl ram → toldOf (cartFs v) (cartBs m r np nc cl ram) = 0) ∧ (¬ May m r np nc cl ram → toldOf (cartFs v) (cartBs m r np nc cl ram) = 1) := by
  simp only [cartFs, cartBs, toldOf, May, Bool.not_eq_true', decide_eq_true_eq, decide_eq_false_iff_not, Bool.and_eq_true]
  by_cases h1 : 0 ≤ m ∧ m ≤ 4 <;> by_cases h2 : ¬ r = 0 ∧ ¬ r = 1 <;> cases h3 : toldB np 16384 <;> cases h4 : toldB nc 8192 <;> cases h5 : blankB cl <;> cases ram <;> simp [h1, h2] <;> omega

theorem does_cart (w : World) (m r : Int) (P : Option Addr) (np cp : Nat) (C : Option Addr) (nc cc : Nat) (ram : Bool) (cl : List UInt8) (hn : np ≤ 1000000000) (hnc : nc ≤ 1000000000) (hcl : cl.length = nc) (hr : Rd w C cl) : Does w (cartFs (cV m r P np cp C nc cc ram)) (cartBs m r np nc cl ram) := by
  intro i hi hj
  rcases (by simp [cartFs] at hi; omega : i = 0 ∨ i = 1 ∨ i = 2 ∨ i = 3 ∨ i = 4) with rfl | rfl | rfl | rfl | rfl
  · exact ⟨fun args W => enters_own Try.func41 (by kernel_rfl) (by kernel_rfl) args W, fun W hf => cMapper_any W m r P np cp C nc cc ram⟩
  · exact ⟨fun args W => enters_own Try.func42 (by kernel_rfl) (by kernel_rfl) args W, fun W hf => cMirror_any W m r P np cp C nc cc ram⟩
  · exact ⟨fun args W => enters_own Try.func43 (by kernel_rfl) (by kernel_rfl) args W, fun W hf => cPRG_any W m r P np cp C nc cc ram hn⟩
  · exact ⟨fun args W => enters_own Try.func44 (by kernel_rfl) (by kernel_rfl) args W, fun W hf => cCHR_any W m r P np cp C nc cc ram hnc⟩
  · exact ⟨fun args W => enters_own Try.func45 (by kernel_rfl) (by kernel_rfl) args W, fun W hf => cRAM_any W m r P np cp C nc cc ram cl hcl (hr.later hf (by simp)) hnc⟩

set_option maxRecDepth 100000 in
set_option maxHeartbeats 1000000 in
theorem cfaults_any (w : World) (m r : Int) (P : Option Addr) (np cp : Nat) (C : Option Addr) (nc cc : Nat) (ram : Bool) : Calls Try.prog 18 #[cV m r P np cp C nc cc ram] w fun e w' => ∃ g, e = .returned (.slice (some ⟨g, 0, none⟩) 5 5) ∧ Tab w' g (cartFs (cV m r P np cp C nc cc ram)) ∧ Fr [] w w' := by
  have hmf : ∀ (fn : Fn) (first cap : Array Value) (w : World), (Instr.makeFunc fn first cap).run Try.prog w = .ok (.func fn first cap) w := fun _ _ _ _ => rfl
  unfold cV
  go_enter Try.func18, Try.ntmps18
  go_wp2
  go_ret
  refine ⟨w.heap.size + 1, by simp, ?_, ((Fr.refl [] w).alloc _).alloc _⟩
  intro j hj
  rcases (by simp [cartFs] at hj; omega : j = 0 ∨ j = 1 ∨ j = 2 ∨ j = 3 ∨ j = 4) with rfl | rfl | rfl | rfl | rfl
  all_goals simp [cartFs]

end Ine
end Go.Proofs.Ythabiaenaicppaa
