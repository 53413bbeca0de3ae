/-
  Contracts of what mappers have in common, and of mappers 2 and 3. Condition: the state is one that there is.
-/
import Derived.Test.YtgakdlbdbiacgaaNmBits
namespace Go.Proofs.Ytgakdlbdbiacgaa
open Go.RowKit
namespace Nm

set_option maxRecDepth 100000 in
set_option maxHeartbeats 4000000 in
theorem mmirror_any (w : World) (g : Nat) (m : Int) (h : w.cell? ⟨g, 0, none⟩ = some (.int .i64 m)) : Calls Try.prog 53 #[.pointer (some ⟨g, 0, none⟩)] w fun e w' => e = .returned (.int .i64 m) ∧ w = w' := by
  go_enter Try.func53, Try.ntmps53
  go_wp2
  go_ret
  exact ⟨rfl, rfl⟩

set_option maxRecDepth 100000 in
set_option maxHeartbeats 4000000 in
theorem mpage_any (w : World) (g : Nat) (s : Int) : Calls Try.prog 54 #[.pointer (some ⟨g, 0, none⟩), .int .i64 s] w fun e w' => e = .returned (.int .i64 s) ∧ w = w' := by
  go_enter Try.func54, Try.ntmps54
  go_wp2
  go_ret
  exact ⟨rfl, rfl⟩

set_option maxRecDepth 100000 in
set_option maxHeartbeats 4000000 in
theorem munit_any (w : World) (g : Nat) (s : Int) : Calls Try.prog 55 #[.pointer (some ⟨g, 0, none⟩), .int .i64 s] w fun e w' => e = .returned (.int .i64 s) ∧ w = w' := by
  go_enter Try.func55, Try.ntmps55
  go_wp2
  go_ret
  exact ⟨rfl, rfl⟩

set_option maxRecDepth 100000 in
set_option maxHeartbeats 4000000 in
theorem mirq_any (w : World) (g : Nat) : Calls Try.prog 52 #[.pointer (some ⟨g, 0, none⟩)] w fun e w' => e = .returned (.bool false) ∧ w = w' := by
  go_enter Try.func52, Try.ntmps52
  go_wp2
  go_ret
  exact ⟨rfl, rfl⟩

set_option maxRecDepth 100000 in
set_option maxHeartbeats 4000000 in
theorem mclock_any (w : World) (g : Nat) : Calls Try.prog 51 #[.pointer (some ⟨g, 0, none⟩)] w fun e w' => e = .returned (.tuple #[]) ∧ w = w' := by
  go_enter Try.func51, Try.ntmps51
  go_wp2
  (first | go_end0 | refine bodyPost_ret (results_none rfl _ _ _) rfl ?_)
  exact ⟨rfl, rfl⟩

set_option maxRecDepth 100000 in
set_option maxHeartbeats 4000000 in
theorem mwrite_any (w : World) (g : Nat) (a v : Int) : Calls Try.prog 56 #[.pointer (some ⟨g, 0, none⟩), .int .u16 a, .int .u8 v] w fun e w' => e = .returned (.tuple #[]) ∧ w = w' := by
  go_enter Try.func56, Try.ntmps56
  go_wp2
  (first | go_end0 | refine bodyPost_ret (results_none rfl _ _ _) rfl ?_)
  exact ⟨rfl, rfl⟩

set_option maxRecDepth 100000 in
set_option maxHeartbeats 4000000 in
theorem pwrite_any (w : World) (g : Nat) (S : St) (a v : Int) (h : Ob2 w g S) (hv : byte v) :
    Calls Try.prog 65 #[.pointer (some ⟨g, 0, none⟩), .int .u16 a, .int .u8 v] w fun e w' => e = .returned (.tuple #[]) ∧ Ob2 w' g { S with n := v } ∧ Fr [g] w w' := by
  have hp : Ob2 (w.setCell ⟨g, 1, none⟩ (.int .u8 v)) g { S with n := v } := Blk.put h 1 (.int .u8 v)
  have HP := Lib.hid hp
  obtain ⟨hv0, hv1⟩ := hv
  have d0 := Blk.cell h 0
  have d1 := Blk.cell h 1
  have f1 := Blk.frozen h 1
  simp at d0 d1
  clear h hp
  go_enter Try.func65, Try.ntmps65
  go_wp2
  (first | go_end0 | refine bodyPost_ret (results_none rfl _ _ _) rfl ?_)
  exact ⟨rfl, HP.out, (Fr.refl [g] w).setCell (by simp) _⟩

set_option maxRecDepth 100000 in
set_option maxHeartbeats 4000000 in
theorem uwrite_any (w : World) (g : Nat) (S : St) (a v : Int) (h : Ob3 w g S) (hv : byte v) :
    Calls Try.prog 67 #[.pointer (some ⟨g, 0, none⟩), .int .u16 a, .int .u8 v] w fun e w' => e = .returned (.tuple #[]) ∧ Ob3 w' g { S with n := v } ∧ Fr [g] w w' := by
  have hp : Ob3 (w.setCell ⟨g, 1, none⟩ (.int .u8 v)) g { S with n := v } := Blk.put h 1 (.int .u8 v)
  have HP := Lib.hid hp
  obtain ⟨hv0, hv1⟩ := hv
  have d0 := Blk.cell h 0
  have d1 := Blk.cell h 1
  have f1 := Blk.frozen h 1
  simp at d0 d1
  clear h hp
  go_enter Try.func67, Try.ntmps67
  go_wp2
  (first | go_end0 | refine bodyPost_ret (results_none rfl _ _ _) rfl ?_)
  exact ⟨rfl, HP.out, (Fr.refl [g] w).setCell (by simp) _⟩

set_option maxRecDepth 100000 in
set_option maxHeartbeats 4000000 in
theorem ppage_any (w : World) (g : Nat) (S : St) (s : Int) (h : Ob2 w g S) (hO : Ok S) (hm : S.mp = 2) (hs0 : 0 ≤ s) (hs1 : s < 4) :
    Calls Try.prog 64 #[.pointer (some ⟨g, 0, none⟩), .int .i64 s] w fun e w' => e = .returned (.int .i64 (rawP S s)) ∧ w = w' := by
  obtain ⟨hn0, hn1⟩ := hO.n
  have d1 : w.cell? ⟨g, 1, none⟩ = some (.int .u8 S.n) := Blk.cell h 1
  obtain ⟨X1, hX1⟩ : ∃ y, 2 * S.n = y := ⟨_, rfl⟩
  have hX10 : 0 ≤ X1 := by omega
  have hX11 : X1 < 512 := by omega
  have H2 : Hid (∀ W, Calls Try.prog 62 #[.int .i64 X1, .int .i64 s] W fun e w' => e = .returned (.int .i64 (if s < 2 then X1 + s else s - 4)) ∧ W = w') := Lib.hid fun W => twoAndLast_any W X1 s hs0 (by omega) hX10 (by omega)
  obtain ⟨N, hN⟩ : ∃ y, (if s < 2 then X1 + s else s - 4) = y := ⟨_, rfl⟩
  have HQ : rawP S s = N := by
    rw [← hN]
    unfold rawP
    rw [if_neg (by omega), if_pos hm, ← hX1, Int.mul_comm]
  rw [HQ]
  rw [hN] at H2
  generalize S.n = n at *
  clear h hO hm hN HQ
  go_enter Try.func64, Try.ntmps64
  go_wp2_with fail
  (with_reducible refine (H2.out _).mono ?_)
  rintro e w1 ⟨rfl, rfl⟩
  go_wp2
  go_ret
  exact ⟨rfl, rfl⟩

set_option maxRecDepth 100000 in
set_option maxHeartbeats 4000000 in
theorem uunit_any (w : World) (g : Nat) (S : St) (s : Int) (h : Ob3 w g S) (hO : Ok S) (hm : S.mp = 3) (hs0 : 0 ≤ s) (hs1 : s < 8) :
    Calls Try.prog 66 #[.pointer (some ⟨g, 0, none⟩), .int .i64 s] w fun e w' => e = .returned (.int .i64 (unit S s)) ∧ w = w' := by
  obtain ⟨hn0, hn1⟩ := hO.n
  have d1 : w.cell? ⟨g, 1, none⟩ = some (.int .u8 S.n) := Blk.cell h 1
  have hr : unit S s = 8 * S.n + s := by unfold unit; rw [if_neg (by omega), if_pos hm]; omega
  rw [hr]
  generalize S.n = n at *
  obtain ⟨X1, hX1⟩ : ∃ y, 8 * n = y := ⟨_, rfl⟩
  obtain ⟨N, hN⟩ : ∃ y, X1 + s = y := ⟨_, rfl⟩
  rw [hX1, hN]
  have hX10 : 0 ≤ X1 := by omega
  have hX11 : X1 < 2048 := by omega
  clear h hO hm hr
  go_enter Try.func66, Try.ntmps66
  go_wp2
  go_ret
  exact ⟨rfl, rfl⟩

end Nm
end Go.Proofs.Ytgakdlbdbiacgaa
