/-
  Contract of the document's Known. Condition: an opcode is a byte.
-/
import Derived.Test.YtlnpadekgakghaaDoorMosRef2
namespace Go.Proofs.YtlnpadekgakghaaDoor
open Go.RowKit
namespace Ms
open Al (byte of_byte)
set_option linter.unusedVariables false

set_option maxRecDepth 100000 in
set_option maxHeartbeats 4000000 in
theorem rknown_0_0 (w : World) (what : Int) (h0 : 0 ≤ what) (h7 : what ≤ 7) : Calls Tryd.prog 19 #[.int .u8 (32 * what + 0)] w fun e w' => e = .returned (.bool (known (32 * what + 0))) ∧ w = w' := by
  obtain rfl | rfl | rfl | rfl | rfl | rfl | rfl | rfl : what = 0 ∨ what = 1 ∨ what = 2 ∨ what = 3 ∨ what = 4 ∨ what = 5 ∨ what = 6 ∨ what = 7 := by omega
  · change Calls _ _ #[.int .u8 0] _ fun e w' => e = .returned (.bool true) ∧ w = w'
    go_enter Tryd.func19, Tryd.ntmps19
    go_wp2
    go_ret
    exact ⟨rfl, rfl⟩
  · change Calls _ _ #[.int .u8 32] _ fun e w' => e = .returned (.bool true) ∧ w = w'
    go_enter Tryd.func19, Tryd.ntmps19
    go_wp2
    go_ret
    exact ⟨rfl, rfl⟩
  · change Calls _ _ #[.int .u8 64] _ fun e w' => e = .returned (.bool true) ∧ w = w'
    go_enter Tryd.func19, Tryd.ntmps19
    go_wp2
    go_ret
    exact ⟨rfl, rfl⟩
  · change Calls _ _ #[.int .u8 96] _ fun e w' => e = .returned (.bool true) ∧ w = w'
    go_enter Tryd.func19, Tryd.ntmps19
    go_wp2
    go_ret
    exact ⟨rfl, rfl⟩
  · change Calls _ _ #[.int .u8 128] _ fun e w' => e = .returned (.bool false) ∧ w = w'
    go_enter Tryd.func19, Tryd.ntmps19
    go_wp2
    go_ret
    exact ⟨rfl, rfl⟩
  · change Calls _ _ #[.int .u8 160] _ fun e w' => e = .returned (.bool true) ∧ w = w'
    go_enter Tryd.func19, Tryd.ntmps19
    go_wp2
    go_ret
    exact ⟨rfl, rfl⟩
  · change Calls _ _ #[.int .u8 192] _ fun e w' => e = .returned (.bool true) ∧ w = w'
    go_enter Tryd.func19, Tryd.ntmps19
    go_wp2
    go_ret
    exact ⟨rfl, rfl⟩
  · change Calls _ _ #[.int .u8 224] _ fun e w' => e = .returned (.bool true) ∧ w = w'
    go_enter Tryd.func19, Tryd.ntmps19
    go_wp2
    go_ret
    exact ⟨rfl, rfl⟩

set_option maxRecDepth 100000 in
set_option maxHeartbeats 4000000 in
theorem rknown_0_1 (w : World) (what : Int) (h0 : 0 ≤ what) (h7 : what ≤ 7) : Calls Tryd.prog 19 #[.int .u8 (32 * what + 4)] w fun e w' => e = .returned (.bool (known (32 * what + 4))) ∧ w = w' := by
  obtain rfl | rfl | rfl | rfl | rfl | rfl | rfl | rfl : what = 0 ∨ what = 1 ∨ what = 2 ∨ what = 3 ∨ what = 4 ∨ what = 5 ∨ what = 6 ∨ what = 7 := by omega
  · change Calls _ _ #[.int .u8 4] _ fun e w' => e = .returned (.bool false) ∧ w = w'
    go_enter Tryd.func19, Tryd.ntmps19
    go_wp2
    go_ret
    exact ⟨rfl, rfl⟩
  · change Calls _ _ #[.int .u8 36] _ fun e w' => e = .returned (.bool true) ∧ w = w'
    go_enter Tryd.func19, Tryd.ntmps19
    go_wp2
    go_ret
    exact ⟨rfl, rfl⟩
  · change Calls _ _ #[.int .u8 68] _ fun e w' => e = .returned (.bool false) ∧ w = w'
    go_enter Tryd.func19, Tryd.ntmps19
    go_wp2
    go_ret
    exact ⟨rfl, rfl⟩
  · change Calls _ _ #[.int .u8 100] _ fun e w' => e = .returned (.bool false) ∧ w = w'
    go_enter Tryd.func19, Tryd.ntmps19
    go_wp2
    go_ret
    exact ⟨rfl, rfl⟩
  · change Calls _ _ #[.int .u8 132] _ fun e w' => e = .returned (.bool true) ∧ w = w'
    go_enter Tryd.func19, Tryd.ntmps19
    go_wp2
    go_ret
    exact ⟨rfl, rfl⟩
  · change Calls _ _ #[.int .u8 164] _ fun e w' => e = .returned (.bool true) ∧ w = w'
    go_enter Tryd.func19, Tryd.ntmps19
    go_wp2
    go_ret
    exact ⟨rfl, rfl⟩
  · change Calls _ _ #[.int .u8 196] _ fun e w' => e = .returned (.bool true) ∧ w = w'
    go_enter Tryd.func19, Tryd.ntmps19
    go_wp2
    go_ret
    exact ⟨rfl, rfl⟩
  · change Calls _ _ #[.int .u8 228] _ fun e w' => e = .returned (.bool true) ∧ w = w'
    go_enter Tryd.func19, Tryd.ntmps19
    go_wp2
    go_ret
    exact ⟨rfl, rfl⟩

set_option maxRecDepth 100000 in
set_option maxHeartbeats 4000000 in
theorem rknown_0_2 (w : World) (what : Int) (h0 : 0 ≤ what) (h7 : what ≤ 7) : Calls Tryd.prog 19 #[.int .u8 (32 * what + 8)] w fun e w' => e = .returned (.bool (known (32 * what + 8))) ∧ w = w' := by
  obtain rfl | rfl | rfl | rfl | rfl | rfl | rfl | rfl : what = 0 ∨ what = 1 ∨ what = 2 ∨ what = 3 ∨ what = 4 ∨ what = 5 ∨ what = 6 ∨ what = 7 := by omega
  · change Calls _ _ #[.int .u8 8] _ fun e w' => e = .returned (.bool true) ∧ w = w'
    go_enter Tryd.func19, Tryd.ntmps19
    go_wp2
    go_ret
    exact ⟨rfl, rfl⟩
  · change Calls _ _ #[.int .u8 40] _ fun e w' => e = .returned (.bool true) ∧ w = w'
    go_enter Tryd.func19, Tryd.ntmps19
    go_wp2
    go_ret
    exact ⟨rfl, rfl⟩
  · change Calls _ _ #[.int .u8 72] _ fun e w' => e = .returned (.bool true) ∧ w = w'
    go_enter Tryd.func19, Tryd.ntmps19
    go_wp2
    go_ret
    exact ⟨rfl, rfl⟩
  · change Calls _ _ #[.int .u8 104] _ fun e w' => e = .returned (.bool true) ∧ w = w'
    go_enter Tryd.func19, Tryd.ntmps19
    go_wp2
    go_ret
    exact ⟨rfl, rfl⟩
  · change Calls _ _ #[.int .u8 136] _ fun e w' => e = .returned (.bool true) ∧ w = w'
    go_enter Tryd.func19, Tryd.ntmps19
    go_wp2
    go_ret
    exact ⟨rfl, rfl⟩
  · change Calls _ _ #[.int .u8 168] _ fun e w' => e = .returned (.bool true) ∧ w = w'
    go_enter Tryd.func19, Tryd.ntmps19
    go_wp2
    go_ret
    exact ⟨rfl, rfl⟩
  · change Calls _ _ #[.int .u8 200] _ fun e w' => e = .returned (.bool true) ∧ w = w'
    go_enter Tryd.func19, Tryd.ntmps19
    go_wp2
    go_ret
    exact ⟨rfl, rfl⟩
  · change Calls _ _ #[.int .u8 232] _ fun e w' => e = .returned (.bool true) ∧ w = w'
    go_enter Tryd.func19, Tryd.ntmps19
    go_wp2
    go_ret
    exact ⟨rfl, rfl⟩

set_option maxRecDepth 100000 in
set_option maxHeartbeats 4000000 in
theorem rknown_0_3 (w : World) (what : Int) (h0 : 0 ≤ what) (h7 : what ≤ 7) : Calls Tryd.prog 19 #[.int .u8 (32 * what + 12)] w fun e w' => e = .returned (.bool (known (32 * what + 12))) ∧ w = w' := by
  obtain rfl | rfl | rfl | rfl | rfl | rfl | rfl | rfl : what = 0 ∨ what = 1 ∨ what = 2 ∨ what = 3 ∨ what = 4 ∨ what = 5 ∨ what = 6 ∨ what = 7 := by omega
  · change Calls _ _ #[.int .u8 12] _ fun e w' => e = .returned (.bool false) ∧ w = w'
    go_enter Tryd.func19, Tryd.ntmps19
    go_wp2
    go_ret
    exact ⟨rfl, rfl⟩
  · change Calls _ _ #[.int .u8 44] _ fun e w' => e = .returned (.bool true) ∧ w = w'
    go_enter Tryd.func19, Tryd.ntmps19
    go_wp2
    go_ret
    exact ⟨rfl, rfl⟩
  · change Calls _ _ #[.int .u8 76] _ fun e w' => e = .returned (.bool true) ∧ w = w'
    go_enter Tryd.func19, Tryd.ntmps19
    go_wp2
    go_ret
    exact ⟨rfl, rfl⟩
  · change Calls _ _ #[.int .u8 108] _ fun e w' => e = .returned (.bool true) ∧ w = w'
    go_enter Tryd.func19, Tryd.ntmps19
    go_wp2
    go_ret
    exact ⟨rfl, rfl⟩
  · change Calls _ _ #[.int .u8 140] _ fun e w' => e = .returned (.bool true) ∧ w = w'
    go_enter Tryd.func19, Tryd.ntmps19
    go_wp2
    go_ret
    exact ⟨rfl, rfl⟩
  · change Calls _ _ #[.int .u8 172] _ fun e w' => e = .returned (.bool true) ∧ w = w'
    go_enter Tryd.func19, Tryd.ntmps19
    go_wp2
    go_ret
    exact ⟨rfl, rfl⟩
  · change Calls _ _ #[.int .u8 204] _ fun e w' => e = .returned (.bool true) ∧ w = w'
    go_enter Tryd.func19, Tryd.ntmps19
    go_wp2
    go_ret
    exact ⟨rfl, rfl⟩
  · change Calls _ _ #[.int .u8 236] _ fun e w' => e = .returned (.bool true) ∧ w = w'
    go_enter Tryd.func19, Tryd.ntmps19
    go_wp2
    go_ret
    exact ⟨rfl, rfl⟩

set_option maxRecDepth 100000 in
set_option maxHeartbeats 4000000 in
theorem rknown_0_4 (w : World) (what : Int) (h0 : 0 ≤ what) (h7 : what ≤ 7) : Calls Tryd.prog 19 #[.int .u8 (32 * what + 16)] w fun e w' => e = .returned (.bool (known (32 * what + 16))) ∧ w = w' := by
  obtain rfl | rfl | rfl | rfl | rfl | rfl | rfl | rfl : what = 0 ∨ what = 1 ∨ what = 2 ∨ what = 3 ∨ what = 4 ∨ what = 5 ∨ what = 6 ∨ what = 7 := by omega
  · change Calls _ _ #[.int .u8 16] _ fun e w' => e = .returned (.bool true) ∧ w = w'
    go_enter Tryd.func19, Tryd.ntmps19
    go_wp2
    go_ret
    exact ⟨rfl, rfl⟩
  · change Calls _ _ #[.int .u8 48] _ fun e w' => e = .returned (.bool true) ∧ w = w'
    go_enter Tryd.func19, Tryd.ntmps19
    go_wp2
    go_ret
    exact ⟨rfl, rfl⟩
  · change Calls _ _ #[.int .u8 80] _ fun e w' => e = .returned (.bool true) ∧ w = w'
    go_enter Tryd.func19, Tryd.ntmps19
    go_wp2
    go_ret
    exact ⟨rfl, rfl⟩
  · change Calls _ _ #[.int .u8 112] _ fun e w' => e = .returned (.bool true) ∧ w = w'
    go_enter Tryd.func19, Tryd.ntmps19
    go_wp2
    go_ret
    exact ⟨rfl, rfl⟩
  · change Calls _ _ #[.int .u8 144] _ fun e w' => e = .returned (.bool true) ∧ w = w'
    go_enter Tryd.func19, Tryd.ntmps19
    go_wp2
    go_ret
    exact ⟨rfl, rfl⟩
  · change Calls _ _ #[.int .u8 176] _ fun e w' => e = .returned (.bool true) ∧ w = w'
    go_enter Tryd.func19, Tryd.ntmps19
    go_wp2
    go_ret
    exact ⟨rfl, rfl⟩
  · change Calls _ _ #[.int .u8 208] _ fun e w' => e = .returned (.bool true) ∧ w = w'
    go_enter Tryd.func19, Tryd.ntmps19
    go_wp2
    go_ret
    exact ⟨rfl, rfl⟩
  · change Calls _ _ #[.int .u8 240] _ fun e w' => e = .returned (.bool true) ∧ w = w'
    go_enter Tryd.func19, Tryd.ntmps19
    go_wp2
    go_ret
    exact ⟨rfl, rfl⟩

set_option maxRecDepth 100000 in
set_option maxHeartbeats 4000000 in
theorem rknown_0_5 (w : World) (what : Int) (h0 : 0 ≤ what) (h7 : what ≤ 7) : Calls Tryd.prog 19 #[.int .u8 (32 * what + 20)] w fun e w' => e = .returned (.bool (known (32 * what + 20))) ∧ w = w' := by
  obtain rfl | rfl | rfl | rfl | rfl | rfl | rfl | rfl : what = 0 ∨ what = 1 ∨ what = 2 ∨ what = 3 ∨ what = 4 ∨ what = 5 ∨ what = 6 ∨ what = 7 := by omega
  · change Calls _ _ #[.int .u8 20] _ fun e w' => e = .returned (.bool false) ∧ w = w'
    go_enter Tryd.func19, Tryd.ntmps19
    go_wp2
    go_ret
    exact ⟨rfl, rfl⟩
  · change Calls _ _ #[.int .u8 52] _ fun e w' => e = .returned (.bool false) ∧ w = w'
    go_enter Tryd.func19, Tryd.ntmps19
    go_wp2
    go_ret
    exact ⟨rfl, rfl⟩
  · change Calls _ _ #[.int .u8 84] _ fun e w' => e = .returned (.bool false) ∧ w = w'
    go_enter Tryd.func19, Tryd.ntmps19
    go_wp2
    go_ret
    exact ⟨rfl, rfl⟩
  · change Calls _ _ #[.int .u8 116] _ fun e w' => e = .returned (.bool false) ∧ w = w'
    go_enter Tryd.func19, Tryd.ntmps19
    go_wp2
    go_ret
    exact ⟨rfl, rfl⟩
  · change Calls _ _ #[.int .u8 148] _ fun e w' => e = .returned (.bool true) ∧ w = w'
    go_enter Tryd.func19, Tryd.ntmps19
    go_wp2
    go_ret
    exact ⟨rfl, rfl⟩
  · change Calls _ _ #[.int .u8 180] _ fun e w' => e = .returned (.bool true) ∧ w = w'
    go_enter Tryd.func19, Tryd.ntmps19
    go_wp2
    go_ret
    exact ⟨rfl, rfl⟩
  · change Calls _ _ #[.int .u8 212] _ fun e w' => e = .returned (.bool false) ∧ w = w'
    go_enter Tryd.func19, Tryd.ntmps19
    go_wp2
    go_ret
    exact ⟨rfl, rfl⟩
  · change Calls _ _ #[.int .u8 244] _ fun e w' => e = .returned (.bool false) ∧ w = w'
    go_enter Tryd.func19, Tryd.ntmps19
    go_wp2
    go_ret
    exact ⟨rfl, rfl⟩

set_option maxRecDepth 100000 in
set_option maxHeartbeats 4000000 in
theorem rknown_0_6 (w : World) (what : Int) (h0 : 0 ≤ what) (h7 : what ≤ 7) : Calls Tryd.prog 19 #[.int .u8 (32 * what + 24)] w fun e w' => e = .returned (.bool (known (32 * what + 24))) ∧ w = w' := by
  obtain rfl | rfl | rfl | rfl | rfl | rfl | rfl | rfl : what = 0 ∨ what = 1 ∨ what = 2 ∨ what = 3 ∨ what = 4 ∨ what = 5 ∨ what = 6 ∨ what = 7 := by omega
  · change Calls _ _ #[.int .u8 24] _ fun e w' => e = .returned (.bool true) ∧ w = w'
    go_enter Tryd.func19, Tryd.ntmps19
    go_wp2
    go_ret
    exact ⟨rfl, rfl⟩
  · change Calls _ _ #[.int .u8 56] _ fun e w' => e = .returned (.bool true) ∧ w = w'
    go_enter Tryd.func19, Tryd.ntmps19
    go_wp2
    go_ret
    exact ⟨rfl, rfl⟩
  · change Calls _ _ #[.int .u8 88] _ fun e w' => e = .returned (.bool true) ∧ w = w'
    go_enter Tryd.func19, Tryd.ntmps19
    go_wp2
    go_ret
    exact ⟨rfl, rfl⟩
  · change Calls _ _ #[.int .u8 120] _ fun e w' => e = .returned (.bool true) ∧ w = w'
    go_enter Tryd.func19, Tryd.ntmps19
    go_wp2
    go_ret
    exact ⟨rfl, rfl⟩
  · change Calls _ _ #[.int .u8 152] _ fun e w' => e = .returned (.bool true) ∧ w = w'
    go_enter Tryd.func19, Tryd.ntmps19
    go_wp2
    go_ret
    exact ⟨rfl, rfl⟩
  · change Calls _ _ #[.int .u8 184] _ fun e w' => e = .returned (.bool true) ∧ w = w'
    go_enter Tryd.func19, Tryd.ntmps19
    go_wp2
    go_ret
    exact ⟨rfl, rfl⟩
  · change Calls _ _ #[.int .u8 216] _ fun e w' => e = .returned (.bool true) ∧ w = w'
    go_enter Tryd.func19, Tryd.ntmps19
    go_wp2
    go_ret
    exact ⟨rfl, rfl⟩
  · change Calls _ _ #[.int .u8 248] _ fun e w' => e = .returned (.bool true) ∧ w = w'
    go_enter Tryd.func19, Tryd.ntmps19
    go_wp2
    go_ret
    exact ⟨rfl, rfl⟩

set_option maxRecDepth 100000 in
set_option maxHeartbeats 4000000 in
theorem rknown_0_7 (w : World) (what : Int) (h0 : 0 ≤ what) (h7 : what ≤ 7) : Calls Tryd.prog 19 #[.int .u8 (32 * what + 28)] w fun e w' => e = .returned (.bool (known (32 * what + 28))) ∧ w = w' := by
  obtain rfl | rfl | rfl | rfl | rfl | rfl | rfl | rfl : what = 0 ∨ what = 1 ∨ what = 2 ∨ what = 3 ∨ what = 4 ∨ what = 5 ∨ what = 6 ∨ what = 7 := by omega
  · change Calls _ _ #[.int .u8 28] _ fun e w' => e = .returned (.bool false) ∧ w = w'
    go_enter Tryd.func19, Tryd.ntmps19
    go_wp2
    go_ret
    exact ⟨rfl, rfl⟩
  · change Calls _ _ #[.int .u8 60] _ fun e w' => e = .returned (.bool false) ∧ w = w'
    go_enter Tryd.func19, Tryd.ntmps19
    go_wp2
    go_ret
    exact ⟨rfl, rfl⟩
  · change Calls _ _ #[.int .u8 92] _ fun e w' => e = .returned (.bool false) ∧ w = w'
    go_enter Tryd.func19, Tryd.ntmps19
    go_wp2
    go_ret
    exact ⟨rfl, rfl⟩
  · change Calls _ _ #[.int .u8 124] _ fun e w' => e = .returned (.bool false) ∧ w = w'
    go_enter Tryd.func19, Tryd.ntmps19
    go_wp2
    go_ret
    exact ⟨rfl, rfl⟩
  · change Calls _ _ #[.int .u8 156] _ fun e w' => e = .returned (.bool false) ∧ w = w'
    go_enter Tryd.func19, Tryd.ntmps19
    go_wp2
    go_ret
    exact ⟨rfl, rfl⟩
  · change Calls _ _ #[.int .u8 188] _ fun e w' => e = .returned (.bool true) ∧ w = w'
    go_enter Tryd.func19, Tryd.ntmps19
    go_wp2
    go_ret
    exact ⟨rfl, rfl⟩
  · change Calls _ _ #[.int .u8 220] _ fun e w' => e = .returned (.bool false) ∧ w = w'
    go_enter Tryd.func19, Tryd.ntmps19
    go_wp2
    go_ret
    exact ⟨rfl, rfl⟩
  · change Calls _ _ #[.int .u8 252] _ fun e w' => e = .returned (.bool false) ∧ w = w'
    go_enter Tryd.func19, Tryd.ntmps19
    go_wp2
    go_ret
    exact ⟨rfl, rfl⟩

set_option maxRecDepth 100000 in
set_option maxHeartbeats 4000000 in
theorem rknown_1_0 (w : World) (what : Int) (h0 : 0 ≤ what) (h7 : what ≤ 7) : Calls Tryd.prog 19 #[.int .u8 (32 * what + 1)] w fun e w' => e = .returned (.bool (known (32 * what + 1))) ∧ w = w' := by
  obtain rfl | rfl | rfl | rfl | rfl | rfl | rfl | rfl : what = 0 ∨ what = 1 ∨ what = 2 ∨ what = 3 ∨ what = 4 ∨ what = 5 ∨ what = 6 ∨ what = 7 := by omega
  · change Calls _ _ #[.int .u8 1] _ fun e w' => e = .returned (.bool true) ∧ w = w'
    go_enter Tryd.func19, Tryd.ntmps19
    go_wp2
    go_ret
    exact ⟨rfl, rfl⟩
  · change Calls _ _ #[.int .u8 33] _ fun e w' => e = .returned (.bool true) ∧ w = w'
    go_enter Tryd.func19, Tryd.ntmps19
    go_wp2
    go_ret
    exact ⟨rfl, rfl⟩
  · change Calls _ _ #[.int .u8 65] _ fun e w' => e = .returned (.bool true) ∧ w = w'
    go_enter Tryd.func19, Tryd.ntmps19
    go_wp2
    go_ret
    exact ⟨rfl, rfl⟩
  · change Calls _ _ #[.int .u8 97] _ fun e w' => e = .returned (.bool true) ∧ w = w'
    go_enter Tryd.func19, Tryd.ntmps19
    go_wp2
    go_ret
    exact ⟨rfl, rfl⟩
  · change Calls _ _ #[.int .u8 129] _ fun e w' => e = .returned (.bool true) ∧ w = w'
    go_enter Tryd.func19, Tryd.ntmps19
    go_wp2
    go_ret
    exact ⟨rfl, rfl⟩
  · change Calls _ _ #[.int .u8 161] _ fun e w' => e = .returned (.bool true) ∧ w = w'
    go_enter Tryd.func19, Tryd.ntmps19
    go_wp2
    go_ret
    exact ⟨rfl, rfl⟩
  · change Calls _ _ #[.int .u8 193] _ fun e w' => e = .returned (.bool true) ∧ w = w'
    go_enter Tryd.func19, Tryd.ntmps19
    go_wp2
    go_ret
    exact ⟨rfl, rfl⟩
  · change Calls _ _ #[.int .u8 225] _ fun e w' => e = .returned (.bool true) ∧ w = w'
    go_enter Tryd.func19, Tryd.ntmps19
    go_wp2
    go_ret
    exact ⟨rfl, rfl⟩

set_option maxRecDepth 100000 in
set_option maxHeartbeats 4000000 in
theorem rknown_1_1 (w : World) (what : Int) (h0 : 0 ≤ what) (h7 : what ≤ 7) : Calls Tryd.prog 19 #[.int .u8 (32 * what + 5)] w fun e w' => e = .returned (.bool (known (32 * what + 5))) ∧ w = w' := by
  obtain rfl | rfl | rfl | rfl | rfl | rfl | rfl | rfl : what = 0 ∨ what = 1 ∨ what = 2 ∨ what = 3 ∨ what = 4 ∨ what = 5 ∨ what = 6 ∨ what = 7 := by omega
  · change Calls _ _ #[.int .u8 5] _ fun e w' => e = .returned (.bool true) ∧ w = w'
    go_enter Tryd.func19, Tryd.ntmps19
    go_wp2
    go_ret
    exact ⟨rfl, rfl⟩
  · change Calls _ _ #[.int .u8 37] _ fun e w' => e = .returned (.bool true) ∧ w = w'
    go_enter Tryd.func19, Tryd.ntmps19
    go_wp2
    go_ret
    exact ⟨rfl, rfl⟩
  · change Calls _ _ #[.int .u8 69] _ fun e w' => e = .returned (.bool true) ∧ w = w'
    go_enter Tryd.func19, Tryd.ntmps19
    go_wp2
    go_ret
    exact ⟨rfl, rfl⟩
  · change Calls _ _ #[.int .u8 101] _ fun e w' => e = .returned (.bool true) ∧ w = w'
    go_enter Tryd.func19, Tryd.ntmps19
    go_wp2
    go_ret
    exact ⟨rfl, rfl⟩
  · change Calls _ _ #[.int .u8 133] _ fun e w' => e = .returned (.bool true) ∧ w = w'
    go_enter Tryd.func19, Tryd.ntmps19
    go_wp2
    go_ret
    exact ⟨rfl, rfl⟩
  · change Calls _ _ #[.int .u8 165] _ fun e w' => e = .returned (.bool true) ∧ w = w'
    go_enter Tryd.func19, Tryd.ntmps19
    go_wp2
    go_ret
    exact ⟨rfl, rfl⟩
  · change Calls _ _ #[.int .u8 197] _ fun e w' => e = .returned (.bool true) ∧ w = w'
    go_enter Tryd.func19, Tryd.ntmps19
    go_wp2
    go_ret
    exact ⟨rfl, rfl⟩
  · change Calls _ _ #[.int .u8 229] _ fun e w' => e = .returned (.bool true) ∧ w = w'
    go_enter Tryd.func19, Tryd.ntmps19
    go_wp2
    go_ret
    exact ⟨rfl, rfl⟩

set_option maxRecDepth 100000 in
set_option maxHeartbeats 4000000 in
theorem rknown_1_2 (w : World) (what : Int) (h0 : 0 ≤ what) (h7 : what ≤ 7) : Calls Tryd.prog 19 #[.int .u8 (32 * what + 9)] w fun e w' => e = .returned (.bool (known (32 * what + 9))) ∧ w = w' := by
  obtain rfl | rfl | rfl | rfl | rfl | rfl | rfl | rfl : what = 0 ∨ what = 1 ∨ what = 2 ∨ what = 3 ∨ what = 4 ∨ what = 5 ∨ what = 6 ∨ what = 7 := by omega
  · change Calls _ _ #[.int .u8 9] _ fun e w' => e = .returned (.bool true) ∧ w = w'
    go_enter Tryd.func19, Tryd.ntmps19
    go_wp2
    go_ret
    exact ⟨rfl, rfl⟩
  · change Calls _ _ #[.int .u8 41] _ fun e w' => e = .returned (.bool true) ∧ w = w'
    go_enter Tryd.func19, Tryd.ntmps19
    go_wp2
    go_ret
    exact ⟨rfl, rfl⟩
  · change Calls _ _ #[.int .u8 73] _ fun e w' => e = .returned (.bool true) ∧ w = w'
    go_enter Tryd.func19, Tryd.ntmps19
    go_wp2
    go_ret
    exact ⟨rfl, rfl⟩
  · change Calls _ _ #[.int .u8 105] _ fun e w' => e = .returned (.bool true) ∧ w = w'
    go_enter Tryd.func19, Tryd.ntmps19
    go_wp2
    go_ret
    exact ⟨rfl, rfl⟩
  · change Calls _ _ #[.int .u8 137] _ fun e w' => e = .returned (.bool false) ∧ w = w'
    go_enter Tryd.func19, Tryd.ntmps19
    go_wp2
    go_ret
    exact ⟨rfl, rfl⟩
  · change Calls _ _ #[.int .u8 169] _ fun e w' => e = .returned (.bool true) ∧ w = w'
    go_enter Tryd.func19, Tryd.ntmps19
    go_wp2
    go_ret
    exact ⟨rfl, rfl⟩
  · change Calls _ _ #[.int .u8 201] _ fun e w' => e = .returned (.bool true) ∧ w = w'
    go_enter Tryd.func19, Tryd.ntmps19
    go_wp2
    go_ret
    exact ⟨rfl, rfl⟩
  · change Calls _ _ #[.int .u8 233] _ fun e w' => e = .returned (.bool true) ∧ w = w'
    go_enter Tryd.func19, Tryd.ntmps19
    go_wp2
    go_ret
    exact ⟨rfl, rfl⟩

set_option maxRecDepth 100000 in
set_option maxHeartbeats 4000000 in
theorem rknown_1_3 (w : World) (what : Int) (h0 : 0 ≤ what) (h7 : what ≤ 7) : Calls Tryd.prog 19 #[.int .u8 (32 * what + 13)] w fun e w' => e = .returned (.bool (known (32 * what + 13))) ∧ w = w' := by
  obtain rfl | rfl | rfl | rfl | rfl | rfl | rfl | rfl : what = 0 ∨ what = 1 ∨ what = 2 ∨ what = 3 ∨ what = 4 ∨ what = 5 ∨ what = 6 ∨ what = 7 := by omega
  · change Calls _ _ #[.int .u8 13] _ fun e w' => e = .returned (.bool true) ∧ w = w'
    go_enter Tryd.func19, Tryd.ntmps19
    go_wp2
    go_ret
    exact ⟨rfl, rfl⟩
  · change Calls _ _ #[.int .u8 45] _ fun e w' => e = .returned (.bool true) ∧ w = w'
    go_enter Tryd.func19, Tryd.ntmps19
    go_wp2
    go_ret
    exact ⟨rfl, rfl⟩
  · change Calls _ _ #[.int .u8 77] _ fun e w' => e = .returned (.bool true) ∧ w = w'
    go_enter Tryd.func19, Tryd.ntmps19
    go_wp2
    go_ret
    exact ⟨rfl, rfl⟩
  · change Calls _ _ #[.int .u8 109] _ fun e w' => e = .returned (.bool true) ∧ w = w'
    go_enter Tryd.func19, Tryd.ntmps19
    go_wp2
    go_ret
    exact ⟨rfl, rfl⟩
  · change Calls _ _ #[.int .u8 141] _ fun e w' => e = .returned (.bool true) ∧ w = w'
    go_enter Tryd.func19, Tryd.ntmps19
    go_wp2
    go_ret
    exact ⟨rfl, rfl⟩
  · change Calls _ _ #[.int .u8 173] _ fun e w' => e = .returned (.bool true) ∧ w = w'
    go_enter Tryd.func19, Tryd.ntmps19
    go_wp2
    go_ret
    exact ⟨rfl, rfl⟩
  · change Calls _ _ #[.int .u8 205] _ fun e w' => e = .returned (.bool true) ∧ w = w'
    go_enter Tryd.func19, Tryd.ntmps19
    go_wp2
    go_ret
    exact ⟨rfl, rfl⟩
  · change Calls _ _ #[.int .u8 237] _ fun e w' => e = .returned (.bool true) ∧ w = w'
    go_enter Tryd.func19, Tryd.ntmps19
    go_wp2
    go_ret
    exact ⟨rfl, rfl⟩

set_option maxRecDepth 100000 in
set_option maxHeartbeats 4000000 in
theorem rknown_1_4 (w : World) (what : Int) (h0 : 0 ≤ what) (h7 : what ≤ 7) : Calls Tryd.prog 19 #[.int .u8 (32 * what + 17)] w fun e w' => e = .returned (.bool (known (32 * what + 17))) ∧ w = w' := by
  obtain rfl | rfl | rfl | rfl | rfl | rfl | rfl | rfl : what = 0 ∨ what = 1 ∨ what = 2 ∨ what = 3 ∨ what = 4 ∨ what = 5 ∨ what = 6 ∨ what = 7 := by omega
  · change Calls _ _ #[.int .u8 17] _ fun e w' => e = .returned (.bool true) ∧ w = w'
    go_enter Tryd.func19, Tryd.ntmps19
    go_wp2
    go_ret
    exact ⟨rfl, rfl⟩
  · change Calls _ _ #[.int .u8 49] _ fun e w' => e = .returned (.bool true) ∧ w = w'
    go_enter Tryd.func19, Tryd.ntmps19
    go_wp2
    go_ret
    exact ⟨rfl, rfl⟩
  · change Calls _ _ #[.int .u8 81] _ fun e w' => e = .returned (.bool true) ∧ w = w'
    go_enter Tryd.func19, Tryd.ntmps19
    go_wp2
    go_ret
    exact ⟨rfl, rfl⟩
  · change Calls _ _ #[.int .u8 113] _ fun e w' => e = .returned (.bool true) ∧ w = w'
    go_enter Tryd.func19, Tryd.ntmps19
    go_wp2
    go_ret
    exact ⟨rfl, rfl⟩
  · change Calls _ _ #[.int .u8 145] _ fun e w' => e = .returned (.bool true) ∧ w = w'
    go_enter Tryd.func19, Tryd.ntmps19
    go_wp2
    go_ret
    exact ⟨rfl, rfl⟩
  · change Calls _ _ #[.int .u8 177] _ fun e w' => e = .returned (.bool true) ∧ w = w'
    go_enter Tryd.func19, Tryd.ntmps19
    go_wp2
    go_ret
    exact ⟨rfl, rfl⟩
  · change Calls _ _ #[.int .u8 209] _ fun e w' => e = .returned (.bool true) ∧ w = w'
    go_enter Tryd.func19, Tryd.ntmps19
    go_wp2
    go_ret
    exact ⟨rfl, rfl⟩
  · change Calls _ _ #[.int .u8 241] _ fun e w' => e = .returned (.bool true) ∧ w = w'
    go_enter Tryd.func19, Tryd.ntmps19
    go_wp2
    go_ret
    exact ⟨rfl, rfl⟩

set_option maxRecDepth 100000 in
set_option maxHeartbeats 4000000 in
theorem rknown_1_5 (w : World) (what : Int) (h0 : 0 ≤ what) (h7 : what ≤ 7) : Calls Tryd.prog 19 #[.int .u8 (32 * what + 21)] w fun e w' => e = .returned (.bool (known (32 * what + 21))) ∧ w = w' := by
  obtain rfl | rfl | rfl | rfl | rfl | rfl | rfl | rfl : what = 0 ∨ what = 1 ∨ what = 2 ∨ what = 3 ∨ what = 4 ∨ what = 5 ∨ what = 6 ∨ what = 7 := by omega
  · change Calls _ _ #[.int .u8 21] _ fun e w' => e = .returned (.bool true) ∧ w = w'
    go_enter Tryd.func19, Tryd.ntmps19
    go_wp2
    go_ret
    exact ⟨rfl, rfl⟩
  · change Calls _ _ #[.int .u8 53] _ fun e w' => e = .returned (.bool true) ∧ w = w'
    go_enter Tryd.func19, Tryd.ntmps19
    go_wp2
    go_ret
    exact ⟨rfl, rfl⟩
  · change Calls _ _ #[.int .u8 85] _ fun e w' => e = .returned (.bool true) ∧ w = w'
    go_enter Tryd.func19, Tryd.ntmps19
    go_wp2
    go_ret
    exact ⟨rfl, rfl⟩
  · change Calls _ _ #[.int .u8 117] _ fun e w' => e = .returned (.bool true) ∧ w = w'
    go_enter Tryd.func19, Tryd.ntmps19
    go_wp2
    go_ret
    exact ⟨rfl, rfl⟩
  · change Calls _ _ #[.int .u8 149] _ fun e w' => e = .returned (.bool true) ∧ w = w'
    go_enter Tryd.func19, Tryd.ntmps19
    go_wp2
    go_ret
    exact ⟨rfl, rfl⟩
  · change Calls _ _ #[.int .u8 181] _ fun e w' => e = .returned (.bool true) ∧ w = w'
    go_enter Tryd.func19, Tryd.ntmps19
    go_wp2
    go_ret
    exact ⟨rfl, rfl⟩
  · change Calls _ _ #[.int .u8 213] _ fun e w' => e = .returned (.bool true) ∧ w = w'
    go_enter Tryd.func19, Tryd.ntmps19
    go_wp2
    go_ret
    exact ⟨rfl, rfl⟩
  · change Calls _ _ #[.int .u8 245] _ fun e w' => e = .returned (.bool true) ∧ w = w'
    go_enter Tryd.func19, Tryd.ntmps19
    go_wp2
    go_ret
    exact ⟨rfl, rfl⟩

set_option maxRecDepth 100000 in
set_option maxHeartbeats 4000000 in
theorem rknown_1_6 (w : World) (what : Int) (h0 : 0 ≤ what) (h7 : what ≤ 7) : Calls Tryd.prog 19 #[.int .u8 (32 * what + 25)] w fun e w' => e = .returned (.bool (known (32 * what + 25))) ∧ w = w' := by
  obtain rfl | rfl | rfl | rfl | rfl | rfl | rfl | rfl : what = 0 ∨ what = 1 ∨ what = 2 ∨ what = 3 ∨ what = 4 ∨ what = 5 ∨ what = 6 ∨ what = 7 := by omega
  · change Calls _ _ #[.int .u8 25] _ fun e w' => e = .returned (.bool true) ∧ w = w'
    go_enter Tryd.func19, Tryd.ntmps19
    go_wp2
    go_ret
    exact ⟨rfl, rfl⟩
  · change Calls _ _ #[.int .u8 57] _ fun e w' => e = .returned (.bool true) ∧ w = w'
    go_enter Tryd.func19, Tryd.ntmps19
    go_wp2
    go_ret
    exact ⟨rfl, rfl⟩
  · change Calls _ _ #[.int .u8 89] _ fun e w' => e = .returned (.bool true) ∧ w = w'
    go_enter Tryd.func19, Tryd.ntmps19
    go_wp2
    go_ret
    exact ⟨rfl, rfl⟩
  · change Calls _ _ #[.int .u8 121] _ fun e w' => e = .returned (.bool true) ∧ w = w'
    go_enter Tryd.func19, Tryd.ntmps19
    go_wp2
    go_ret
    exact ⟨rfl, rfl⟩
  · change Calls _ _ #[.int .u8 153] _ fun e w' => e = .returned (.bool true) ∧ w = w'
    go_enter Tryd.func19, Tryd.ntmps19
    go_wp2
    go_ret
    exact ⟨rfl, rfl⟩
  · change Calls _ _ #[.int .u8 185] _ fun e w' => e = .returned (.bool true) ∧ w = w'
    go_enter Tryd.func19, Tryd.ntmps19
    go_wp2
    go_ret
    exact ⟨rfl, rfl⟩
  · change Calls _ _ #[.int .u8 217] _ fun e w' => e = .returned (.bool true) ∧ w = w'
    go_enter Tryd.func19, Tryd.ntmps19
    go_wp2
    go_ret
    exact ⟨rfl, rfl⟩
  · change Calls _ _ #[.int .u8 249] _ fun e w' => e = .returned (.bool true) ∧ w = w'
    go_enter Tryd.func19, Tryd.ntmps19
    go_wp2
    go_ret
    exact ⟨rfl, rfl⟩

set_option maxRecDepth 100000 in
set_option maxHeartbeats 4000000 in
theorem rknown_1_7 (w : World) (what : Int) (h0 : 0 ≤ what) (h7 : what ≤ 7) : Calls Tryd.prog 19 #[.int .u8 (32 * what + 29)] w fun e w' => e = .returned (.bool (known (32 * what + 29))) ∧ w = w' := by
  obtain rfl | rfl | rfl | rfl | rfl | rfl | rfl | rfl : what = 0 ∨ what = 1 ∨ what = 2 ∨ what = 3 ∨ what = 4 ∨ what = 5 ∨ what = 6 ∨ what = 7 := by omega
  · change Calls _ _ #[.int .u8 29] _ fun e w' => e = .returned (.bool true) ∧ w = w'
    go_enter Tryd.func19, Tryd.ntmps19
    go_wp2
    go_ret
    exact ⟨rfl, rfl⟩
  · change Calls _ _ #[.int .u8 61] _ fun e w' => e = .returned (.bool true) ∧ w = w'
    go_enter Tryd.func19, Tryd.ntmps19
    go_wp2
    go_ret
    exact ⟨rfl, rfl⟩
  · change Calls _ _ #[.int .u8 93] _ fun e w' => e = .returned (.bool true) ∧ w = w'
    go_enter Tryd.func19, Tryd.ntmps19
    go_wp2
    go_ret
    exact ⟨rfl, rfl⟩
  · change Calls _ _ #[.int .u8 125] _ fun e w' => e = .returned (.bool true) ∧ w = w'
    go_enter Tryd.func19, Tryd.ntmps19
    go_wp2
    go_ret
    exact ⟨rfl, rfl⟩
  · change Calls _ _ #[.int .u8 157] _ fun e w' => e = .returned (.bool true) ∧ w = w'
    go_enter Tryd.func19, Tryd.ntmps19
    go_wp2
    go_ret
    exact ⟨rfl, rfl⟩
  · change Calls _ _ #[.int .u8 189] _ fun e w' => e = .returned (.bool true) ∧ w = w'
    go_enter Tryd.func19, Tryd.ntmps19
    go_wp2
    go_ret
    exact ⟨rfl, rfl⟩
  · change Calls _ _ #[.int .u8 221] _ fun e w' => e = .returned (.bool true) ∧ w = w'
    go_enter Tryd.func19, Tryd.ntmps19
    go_wp2
    go_ret
    exact ⟨rfl, rfl⟩
  · change Calls _ _ #[.int .u8 253] _ fun e w' => e = .returned (.bool true) ∧ w = w'
    go_enter Tryd.func19, Tryd.ntmps19
    go_wp2
    go_ret
    exact ⟨rfl, rfl⟩

set_option maxRecDepth 100000 in
set_option maxHeartbeats 4000000 in
theorem rknown_2_0 (w : World) (what : Int) (h0 : 0 ≤ what) (h7 : what ≤ 7) : Calls Tryd.prog 19 #[.int .u8 (32 * what + 2)] w fun e w' => e = .returned (.bool (known (32 * what + 2))) ∧ w = w' := by
  obtain rfl | rfl | rfl | rfl | rfl | rfl | rfl | rfl : what = 0 ∨ what = 1 ∨ what = 2 ∨ what = 3 ∨ what = 4 ∨ what = 5 ∨ what = 6 ∨ what = 7 := by omega
  · change Calls _ _ #[.int .u8 2] _ fun e w' => e = .returned (.bool false) ∧ w = w'
    go_enter Tryd.func19, Tryd.ntmps19
    go_wp2
    go_ret
    exact ⟨rfl, rfl⟩
  · change Calls _ _ #[.int .u8 34] _ fun e w' => e = .returned (.bool false) ∧ w = w'
    go_enter Tryd.func19, Tryd.ntmps19
    go_wp2
    go_ret
    exact ⟨rfl, rfl⟩
  · change Calls _ _ #[.int .u8 66] _ fun e w' => e = .returned (.bool false) ∧ w = w'
    go_enter Tryd.func19, Tryd.ntmps19
    go_wp2
    go_ret
    exact ⟨rfl, rfl⟩
  · change Calls _ _ #[.int .u8 98] _ fun e w' => e = .returned (.bool false) ∧ w = w'
    go_enter Tryd.func19, Tryd.ntmps19
    go_wp2
    go_ret
    exact ⟨rfl, rfl⟩
  · change Calls _ _ #[.int .u8 130] _ fun e w' => e = .returned (.bool false) ∧ w = w'
    go_enter Tryd.func19, Tryd.ntmps19
    go_wp2
    go_ret
    exact ⟨rfl, rfl⟩
  · change Calls _ _ #[.int .u8 162] _ fun e w' => e = .returned (.bool true) ∧ w = w'
    go_enter Tryd.func19, Tryd.ntmps19
    go_wp2
    go_ret
    exact ⟨rfl, rfl⟩
  · change Calls _ _ #[.int .u8 194] _ fun e w' => e = .returned (.bool false) ∧ w = w'
    go_enter Tryd.func19, Tryd.ntmps19
    go_wp2
    go_ret
    exact ⟨rfl, rfl⟩
  · change Calls _ _ #[.int .u8 226] _ fun e w' => e = .returned (.bool false) ∧ w = w'
    go_enter Tryd.func19, Tryd.ntmps19
    go_wp2
    go_ret
    exact ⟨rfl, rfl⟩

set_option maxRecDepth 100000 in
set_option maxHeartbeats 4000000 in
theorem rknown_2_1 (w : World) (what : Int) (h0 : 0 ≤ what) (h7 : what ≤ 7) : Calls Tryd.prog 19 #[.int .u8 (32 * what + 6)] w fun e w' => e = .returned (.bool (known (32 * what + 6))) ∧ w = w' := by
  obtain rfl | rfl | rfl | rfl | rfl | rfl | rfl | rfl : what = 0 ∨ what = 1 ∨ what = 2 ∨ what = 3 ∨ what = 4 ∨ what = 5 ∨ what = 6 ∨ what = 7 := by omega
  · change Calls _ _ #[.int .u8 6] _ fun e w' => e = .returned (.bool true) ∧ w = w'
    go_enter Tryd.func19, Tryd.ntmps19
    go_wp2
    go_ret
    exact ⟨rfl, rfl⟩
  · change Calls _ _ #[.int .u8 38] _ fun e w' => e = .returned (.bool true) ∧ w = w'
    go_enter Tryd.func19, Tryd.ntmps19
    go_wp2
    go_ret
    exact ⟨rfl, rfl⟩
  · change Calls _ _ #[.int .u8 70] _ fun e w' => e = .returned (.bool true) ∧ w = w'
    go_enter Tryd.func19, Tryd.ntmps19
    go_wp2
    go_ret
    exact ⟨rfl, rfl⟩
  · change Calls _ _ #[.int .u8 102] _ fun e w' => e = .returned (.bool true) ∧ w = w'
    go_enter Tryd.func19, Tryd.ntmps19
    go_wp2
    go_ret
    exact ⟨rfl, rfl⟩
  · change Calls _ _ #[.int .u8 134] _ fun e w' => e = .returned (.bool true) ∧ w = w'
    go_enter Tryd.func19, Tryd.ntmps19
    go_wp2
    go_ret
    exact ⟨rfl, rfl⟩
  · change Calls _ _ #[.int .u8 166] _ fun e w' => e = .returned (.bool true) ∧ w = w'
    go_enter Tryd.func19, Tryd.ntmps19
    go_wp2
    go_ret
    exact ⟨rfl, rfl⟩
  · change Calls _ _ #[.int .u8 198] _ fun e w' => e = .returned (.bool true) ∧ w = w'
    go_enter Tryd.func19, Tryd.ntmps19
    go_wp2
    go_ret
    exact ⟨rfl, rfl⟩
  · change Calls _ _ #[.int .u8 230] _ fun e w' => e = .returned (.bool true) ∧ w = w'
    go_enter Tryd.func19, Tryd.ntmps19
    go_wp2
    go_ret
    exact ⟨rfl, rfl⟩

set_option maxRecDepth 100000 in
set_option maxHeartbeats 4000000 in
theorem rknown_2_2 (w : World) (what : Int) (h0 : 0 ≤ what) (h7 : what ≤ 7) : Calls Tryd.prog 19 #[.int .u8 (32 * what + 10)] w fun e w' => e = .returned (.bool (known (32 * what + 10))) ∧ w = w' := by
  obtain rfl | rfl | rfl | rfl | rfl | rfl | rfl | rfl : what = 0 ∨ what = 1 ∨ what = 2 ∨ what = 3 ∨ what = 4 ∨ what = 5 ∨ what = 6 ∨ what = 7 := by omega
  · change Calls _ _ #[.int .u8 10] _ fun e w' => e = .returned (.bool true) ∧ w = w'
    go_enter Tryd.func19, Tryd.ntmps19
    go_wp2
    go_ret
    exact ⟨rfl, rfl⟩
  · change Calls _ _ #[.int .u8 42] _ fun e w' => e = .returned (.bool true) ∧ w = w'
    go_enter Tryd.func19, Tryd.ntmps19
    go_wp2
    go_ret
    exact ⟨rfl, rfl⟩
  · change Calls _ _ #[.int .u8 74] _ fun e w' => e = .returned (.bool true) ∧ w = w'
    go_enter Tryd.func19, Tryd.ntmps19
    go_wp2
    go_ret
    exact ⟨rfl, rfl⟩
  · change Calls _ _ #[.int .u8 106] _ fun e w' => e = .returned (.bool true) ∧ w = w'
    go_enter Tryd.func19, Tryd.ntmps19
    go_wp2
    go_ret
    exact ⟨rfl, rfl⟩
  · change Calls _ _ #[.int .u8 138] _ fun e w' => e = .returned (.bool true) ∧ w = w'
    go_enter Tryd.func19, Tryd.ntmps19
    go_wp2
    go_ret
    exact ⟨rfl, rfl⟩
  · change Calls _ _ #[.int .u8 170] _ fun e w' => e = .returned (.bool true) ∧ w = w'
    go_enter Tryd.func19, Tryd.ntmps19
    go_wp2
    go_ret
    exact ⟨rfl, rfl⟩
  · change Calls _ _ #[.int .u8 202] _ fun e w' => e = .returned (.bool true) ∧ w = w'
    go_enter Tryd.func19, Tryd.ntmps19
    go_wp2
    go_ret
    exact ⟨rfl, rfl⟩
  · change Calls _ _ #[.int .u8 234] _ fun e w' => e = .returned (.bool true) ∧ w = w'
    go_enter Tryd.func19, Tryd.ntmps19
    go_wp2
    go_ret
    exact ⟨rfl, rfl⟩

set_option maxRecDepth 100000 in
set_option maxHeartbeats 4000000 in
theorem rknown_2_3 (w : World) (what : Int) (h0 : 0 ≤ what) (h7 : what ≤ 7) : Calls Tryd.prog 19 #[.int .u8 (32 * what + 14)] w fun e w' => e = .returned (.bool (known (32 * what + 14))) ∧ w = w' := by
  obtain rfl | rfl | rfl | rfl | rfl | rfl | rfl | rfl : what = 0 ∨ what = 1 ∨ what = 2 ∨ what = 3 ∨ what = 4 ∨ what = 5 ∨ what = 6 ∨ what = 7 := by omega
  · change Calls _ _ #[.int .u8 14] _ fun e w' => e = .returned (.bool true) ∧ w = w'
    go_enter Tryd.func19, Tryd.ntmps19
    go_wp2
    go_ret
    exact ⟨rfl, rfl⟩
  · change Calls _ _ #[.int .u8 46] _ fun e w' => e = .returned (.bool true) ∧ w = w'
    go_enter Tryd.func19, Tryd.ntmps19
    go_wp2
    go_ret
    exact ⟨rfl, rfl⟩
  · change Calls _ _ #[.int .u8 78] _ fun e w' => e = .returned (.bool true) ∧ w = w'
    go_enter Tryd.func19, Tryd.ntmps19
    go_wp2
    go_ret
    exact ⟨rfl, rfl⟩
  · change Calls _ _ #[.int .u8 110] _ fun e w' => e = .returned (.bool true) ∧ w = w'
    go_enter Tryd.func19, Tryd.ntmps19
    go_wp2
    go_ret
    exact ⟨rfl, rfl⟩
  · change Calls _ _ #[.int .u8 142] _ fun e w' => e = .returned (.bool true) ∧ w = w'
    go_enter Tryd.func19, Tryd.ntmps19
    go_wp2
    go_ret
    exact ⟨rfl, rfl⟩
  · change Calls _ _ #[.int .u8 174] _ fun e w' => e = .returned (.bool true) ∧ w = w'
    go_enter Tryd.func19, Tryd.ntmps19
    go_wp2
    go_ret
    exact ⟨rfl, rfl⟩
  · change Calls _ _ #[.int .u8 206] _ fun e w' => e = .returned (.bool true) ∧ w = w'
    go_enter Tryd.func19, Tryd.ntmps19
    go_wp2
    go_ret
    exact ⟨rfl, rfl⟩
  · change Calls _ _ #[.int .u8 238] _ fun e w' => e = .returned (.bool true) ∧ w = w'
    go_enter Tryd.func19, Tryd.ntmps19
    go_wp2
    go_ret
    exact ⟨rfl, rfl⟩

set_option maxRecDepth 100000 in
set_option maxHeartbeats 4000000 in
theorem rknown_2_4 (w : World) (what : Int) (h0 : 0 ≤ what) (h7 : what ≤ 7) : Calls Tryd.prog 19 #[.int .u8 (32 * what + 18)] w fun e w' => e = .returned (.bool (known (32 * what + 18))) ∧ w = w' := by
  obtain rfl | rfl | rfl | rfl | rfl | rfl | rfl | rfl : what = 0 ∨ what = 1 ∨ what = 2 ∨ what = 3 ∨ what = 4 ∨ what = 5 ∨ what = 6 ∨ what = 7 := by omega
  · change Calls _ _ #[.int .u8 18] _ fun e w' => e = .returned (.bool false) ∧ w = w'
    go_enter Tryd.func19, Tryd.ntmps19
    go_wp2
    go_ret
    exact ⟨rfl, rfl⟩
  · change Calls _ _ #[.int .u8 50] _ fun e w' => e = .returned (.bool false) ∧ w = w'
    go_enter Tryd.func19, Tryd.ntmps19
    go_wp2
    go_ret
    exact ⟨rfl, rfl⟩
  · change Calls _ _ #[.int .u8 82] _ fun e w' => e = .returned (.bool false) ∧ w = w'
    go_enter Tryd.func19, Tryd.ntmps19
    go_wp2
    go_ret
    exact ⟨rfl, rfl⟩
  · change Calls _ _ #[.int .u8 114] _ fun e w' => e = .returned (.bool false) ∧ w = w'
    go_enter Tryd.func19, Tryd.ntmps19
    go_wp2
    go_ret
    exact ⟨rfl, rfl⟩
  · change Calls _ _ #[.int .u8 146] _ fun e w' => e = .returned (.bool false) ∧ w = w'
    go_enter Tryd.func19, Tryd.ntmps19
    go_wp2
    go_ret
    exact ⟨rfl, rfl⟩
  · change Calls _ _ #[.int .u8 178] _ fun e w' => e = .returned (.bool false) ∧ w = w'
    go_enter Tryd.func19, Tryd.ntmps19
    go_wp2
    go_ret
    exact ⟨rfl, rfl⟩
  · change Calls _ _ #[.int .u8 210] _ fun e w' => e = .returned (.bool false) ∧ w = w'
    go_enter Tryd.func19, Tryd.ntmps19
    go_wp2
    go_ret
    exact ⟨rfl, rfl⟩
  · change Calls _ _ #[.int .u8 242] _ fun e w' => e = .returned (.bool false) ∧ w = w'
    go_enter Tryd.func19, Tryd.ntmps19
    go_wp2
    go_ret
    exact ⟨rfl, rfl⟩

set_option maxRecDepth 100000 in
set_option maxHeartbeats 4000000 in
theorem rknown_2_5 (w : World) (what : Int) (h0 : 0 ≤ what) (h7 : what ≤ 7) : Calls Tryd.prog 19 #[.int .u8 (32 * what + 22)] w fun e w' => e = .returned (.bool (known (32 * what + 22))) ∧ w = w' := by
  obtain rfl | rfl | rfl | rfl | rfl | rfl | rfl | rfl : what = 0 ∨ what = 1 ∨ what = 2 ∨ what = 3 ∨ what = 4 ∨ what = 5 ∨ what = 6 ∨ what = 7 := by omega
  · change Calls _ _ #[.int .u8 22] _ fun e w' => e = .returned (.bool true) ∧ w = w'
    go_enter Tryd.func19, Tryd.ntmps19
    go_wp2
    go_ret
    exact ⟨rfl, rfl⟩
  · change Calls _ _ #[.int .u8 54] _ fun e w' => e = .returned (.bool true) ∧ w = w'
    go_enter Tryd.func19, Tryd.ntmps19
    go_wp2
    go_ret
    exact ⟨rfl, rfl⟩
  · change Calls _ _ #[.int .u8 86] _ fun e w' => e = .returned (.bool true) ∧ w = w'
    go_enter Tryd.func19, Tryd.ntmps19
    go_wp2
    go_ret
    exact ⟨rfl, rfl⟩
  · change Calls _ _ #[.int .u8 118] _ fun e w' => e = .returned (.bool true) ∧ w = w'
    go_enter Tryd.func19, Tryd.ntmps19
    go_wp2
    go_ret
    exact ⟨rfl, rfl⟩
  · change Calls _ _ #[.int .u8 150] _ fun e w' => e = .returned (.bool true) ∧ w = w'
    go_enter Tryd.func19, Tryd.ntmps19
    go_wp2
    go_ret
    exact ⟨rfl, rfl⟩
  · change Calls _ _ #[.int .u8 182] _ fun e w' => e = .returned (.bool true) ∧ w = w'
    go_enter Tryd.func19, Tryd.ntmps19
    go_wp2
    go_ret
    exact ⟨rfl, rfl⟩
  · change Calls _ _ #[.int .u8 214] _ fun e w' => e = .returned (.bool true) ∧ w = w'
    go_enter Tryd.func19, Tryd.ntmps19
    go_wp2
    go_ret
    exact ⟨rfl, rfl⟩
  · change Calls _ _ #[.int .u8 246] _ fun e w' => e = .returned (.bool true) ∧ w = w'
    go_enter Tryd.func19, Tryd.ntmps19
    go_wp2
    go_ret
    exact ⟨rfl, rfl⟩

set_option maxRecDepth 100000 in
set_option maxHeartbeats 4000000 in
theorem rknown_2_6 (w : World) (what : Int) (h0 : 0 ≤ what) (h7 : what ≤ 7) : Calls Tryd.prog 19 #[.int .u8 (32 * what + 26)] w fun e w' => e = .returned (.bool (known (32 * what + 26))) ∧ w = w' := by
  obtain rfl | rfl | rfl | rfl | rfl | rfl | rfl | rfl : what = 0 ∨ what = 1 ∨ what = 2 ∨ what = 3 ∨ what = 4 ∨ what = 5 ∨ what = 6 ∨ what = 7 := by omega
  · change Calls _ _ #[.int .u8 26] _ fun e w' => e = .returned (.bool false) ∧ w = w'
    go_enter Tryd.func19, Tryd.ntmps19
    go_wp2
    go_ret
    exact ⟨rfl, rfl⟩
  · change Calls _ _ #[.int .u8 58] _ fun e w' => e = .returned (.bool false) ∧ w = w'
    go_enter Tryd.func19, Tryd.ntmps19
    go_wp2
    go_ret
    exact ⟨rfl, rfl⟩
  · change Calls _ _ #[.int .u8 90] _ fun e w' => e = .returned (.bool false) ∧ w = w'
    go_enter Tryd.func19, Tryd.ntmps19
    go_wp2
    go_ret
    exact ⟨rfl, rfl⟩
  · change Calls _ _ #[.int .u8 122] _ fun e w' => e = .returned (.bool false) ∧ w = w'
    go_enter Tryd.func19, Tryd.ntmps19
    go_wp2
    go_ret
    exact ⟨rfl, rfl⟩
  · change Calls _ _ #[.int .u8 154] _ fun e w' => e = .returned (.bool true) ∧ w = w'
    go_enter Tryd.func19, Tryd.ntmps19
    go_wp2
    go_ret
    exact ⟨rfl, rfl⟩
  · change Calls _ _ #[.int .u8 186] _ fun e w' => e = .returned (.bool true) ∧ w = w'
    go_enter Tryd.func19, Tryd.ntmps19
    go_wp2
    go_ret
    exact ⟨rfl, rfl⟩
  · change Calls _ _ #[.int .u8 218] _ fun e w' => e = .returned (.bool false) ∧ w = w'
    go_enter Tryd.func19, Tryd.ntmps19
    go_wp2
    go_ret
    exact ⟨rfl, rfl⟩
  · change Calls _ _ #[.int .u8 250] _ fun e w' => e = .returned (.bool false) ∧ w = w'
    go_enter Tryd.func19, Tryd.ntmps19
    go_wp2
    go_ret
    exact ⟨rfl, rfl⟩

set_option maxRecDepth 100000 in
set_option maxHeartbeats 4000000 in
theorem rknown_2_7 (w : World) (what : Int) (h0 : 0 ≤ what) (h7 : what ≤ 7) : Calls Tryd.prog 19 #[.int .u8 (32 * what + 30)] w fun e w' => e = .returned (.bool (known (32 * what + 30))) ∧ w = w' := by
  obtain rfl | rfl | rfl | rfl | rfl | rfl | rfl | rfl : what = 0 ∨ what = 1 ∨ what = 2 ∨ what = 3 ∨ what = 4 ∨ what = 5 ∨ what = 6 ∨ what = 7 := by omega
  · change Calls _ _ #[.int .u8 30] _ fun e w' => e = .returned (.bool true) ∧ w = w'
    go_enter Tryd.func19, Tryd.ntmps19
    go_wp2
    go_ret
    exact ⟨rfl, rfl⟩
  · change Calls _ _ #[.int .u8 62] _ fun e w' => e = .returned (.bool true) ∧ w = w'
    go_enter Tryd.func19, Tryd.ntmps19
    go_wp2
    go_ret
    exact ⟨rfl, rfl⟩
  · change Calls _ _ #[.int .u8 94] _ fun e w' => e = .returned (.bool true) ∧ w = w'
    go_enter Tryd.func19, Tryd.ntmps19
    go_wp2
    go_ret
    exact ⟨rfl, rfl⟩
  · change Calls _ _ #[.int .u8 126] _ fun e w' => e = .returned (.bool true) ∧ w = w'
    go_enter Tryd.func19, Tryd.ntmps19
    go_wp2
    go_ret
    exact ⟨rfl, rfl⟩
  · change Calls _ _ #[.int .u8 158] _ fun e w' => e = .returned (.bool false) ∧ w = w'
    go_enter Tryd.func19, Tryd.ntmps19
    go_wp2
    go_ret
    exact ⟨rfl, rfl⟩
  · change Calls _ _ #[.int .u8 190] _ fun e w' => e = .returned (.bool true) ∧ w = w'
    go_enter Tryd.func19, Tryd.ntmps19
    go_wp2
    go_ret
    exact ⟨rfl, rfl⟩
  · change Calls _ _ #[.int .u8 222] _ fun e w' => e = .returned (.bool true) ∧ w = w'
    go_enter Tryd.func19, Tryd.ntmps19
    go_wp2
    go_ret
    exact ⟨rfl, rfl⟩
  · change Calls _ _ #[.int .u8 254] _ fun e w' => e = .returned (.bool true) ∧ w = w'
    go_enter Tryd.func19, Tryd.ntmps19
    go_wp2
    go_ret
    exact ⟨rfl, rfl⟩

set_option maxRecDepth 100000 in
set_option maxHeartbeats 4000000 in
theorem rknown_3_0 (w : World) (what : Int) (h0 : 0 ≤ what) (h7 : what ≤ 7) : Calls Tryd.prog 19 #[.int .u8 (32 * what + 3)] w fun e w' => e = .returned (.bool (known (32 * what + 3))) ∧ w = w' := by
  obtain rfl | rfl | rfl | rfl | rfl | rfl | rfl | rfl : what = 0 ∨ what = 1 ∨ what = 2 ∨ what = 3 ∨ what = 4 ∨ what = 5 ∨ what = 6 ∨ what = 7 := by omega
  · change Calls _ _ #[.int .u8 3] _ fun e w' => e = .returned (.bool false) ∧ w = w'
    go_enter Tryd.func19, Tryd.ntmps19
    go_wp2
    go_ret
    exact ⟨rfl, rfl⟩
  · change Calls _ _ #[.int .u8 35] _ fun e w' => e = .returned (.bool false) ∧ w = w'
    go_enter Tryd.func19, Tryd.ntmps19
    go_wp2
    go_ret
    exact ⟨rfl, rfl⟩
  · change Calls _ _ #[.int .u8 67] _ fun e w' => e = .returned (.bool false) ∧ w = w'
    go_enter Tryd.func19, Tryd.ntmps19
    go_wp2
    go_ret
    exact ⟨rfl, rfl⟩
  · change Calls _ _ #[.int .u8 99] _ fun e w' => e = .returned (.bool false) ∧ w = w'
    go_enter Tryd.func19, Tryd.ntmps19
    go_wp2
    go_ret
    exact ⟨rfl, rfl⟩
  · change Calls _ _ #[.int .u8 131] _ fun e w' => e = .returned (.bool false) ∧ w = w'
    go_enter Tryd.func19, Tryd.ntmps19
    go_wp2
    go_ret
    exact ⟨rfl, rfl⟩
  · change Calls _ _ #[.int .u8 163] _ fun e w' => e = .returned (.bool false) ∧ w = w'
    go_enter Tryd.func19, Tryd.ntmps19
    go_wp2
    go_ret
    exact ⟨rfl, rfl⟩
  · change Calls _ _ #[.int .u8 195] _ fun e w' => e = .returned (.bool false) ∧ w = w'
    go_enter Tryd.func19, Tryd.ntmps19
    go_wp2
    go_ret
    exact ⟨rfl, rfl⟩
  · change Calls _ _ #[.int .u8 227] _ fun e w' => e = .returned (.bool false) ∧ w = w'
    go_enter Tryd.func19, Tryd.ntmps19
    go_wp2
    go_ret
    exact ⟨rfl, rfl⟩

set_option maxRecDepth 100000 in
set_option maxHeartbeats 4000000 in
theorem rknown_3_1 (w : World) (what : Int) (h0 : 0 ≤ what) (h7 : what ≤ 7) : Calls Tryd.prog 19 #[.int .u8 (32 * what + 7)] w fun e w' => e = .returned (.bool (known (32 * what + 7))) ∧ w = w' := by
  obtain rfl | rfl | rfl | rfl | rfl | rfl | rfl | rfl : what = 0 ∨ what = 1 ∨ what = 2 ∨ what = 3 ∨ what = 4 ∨ what = 5 ∨ what = 6 ∨ what = 7 := by omega
  · change Calls _ _ #[.int .u8 7] _ fun e w' => e = .returned (.bool false) ∧ w = w'
    go_enter Tryd.func19, Tryd.ntmps19
    go_wp2
    go_ret
    exact ⟨rfl, rfl⟩
  · change Calls _ _ #[.int .u8 39] _ fun e w' => e = .returned (.bool false) ∧ w = w'
    go_enter Tryd.func19, Tryd.ntmps19
    go_wp2
    go_ret
    exact ⟨rfl, rfl⟩
  · change Calls _ _ #[.int .u8 71] _ fun e w' => e = .returned (.bool false) ∧ w = w'
    go_enter Tryd.func19, Tryd.ntmps19
    go_wp2
    go_ret
    exact ⟨rfl, rfl⟩
  · change Calls _ _ #[.int .u8 103] _ fun e w' => e = .returned (.bool false) ∧ w = w'
    go_enter Tryd.func19, Tryd.ntmps19
    go_wp2
    go_ret
    exact ⟨rfl, rfl⟩
  · change Calls _ _ #[.int .u8 135] _ fun e w' => e = .returned (.bool false) ∧ w = w'
    go_enter Tryd.func19, Tryd.ntmps19
    go_wp2
    go_ret
    exact ⟨rfl, rfl⟩
  · change Calls _ _ #[.int .u8 167] _ fun e w' => e = .returned (.bool false) ∧ w = w'
    go_enter Tryd.func19, Tryd.ntmps19
    go_wp2
    go_ret
    exact ⟨rfl, rfl⟩
  · change Calls _ _ #[.int .u8 199] _ fun e w' => e = .returned (.bool false) ∧ w = w'
    go_enter Tryd.func19, Tryd.ntmps19
    go_wp2
    go_ret
    exact ⟨rfl, rfl⟩
  · change Calls _ _ #[.int .u8 231] _ fun e w' => e = .returned (.bool false) ∧ w = w'
    go_enter Tryd.func19, Tryd.ntmps19
    go_wp2
    go_ret
    exact ⟨rfl, rfl⟩

set_option maxRecDepth 100000 in
set_option maxHeartbeats 4000000 in
theorem rknown_3_2 (w : World) (what : Int) (h0 : 0 ≤ what) (h7 : what ≤ 7) : Calls Tryd.prog 19 #[.int .u8 (32 * what + 11)] w fun e w' => e = .returned (.bool (known (32 * what + 11))) ∧ w = w' := by
  obtain rfl | rfl | rfl | rfl | rfl | rfl | rfl | rfl : what = 0 ∨ what = 1 ∨ what = 2 ∨ what = 3 ∨ what = 4 ∨ what = 5 ∨ what = 6 ∨ what = 7 := by omega
  · change Calls _ _ #[.int .u8 11] _ fun e w' => e = .returned (.bool false) ∧ w = w'
    go_enter Tryd.func19, Tryd.ntmps19
    go_wp2
    go_ret
    exact ⟨rfl, rfl⟩
  · change Calls _ _ #[.int .u8 43] _ fun e w' => e = .returned (.bool false) ∧ w = w'
    go_enter Tryd.func19, Tryd.ntmps19
    go_wp2
    go_ret
    exact ⟨rfl, rfl⟩
  · change Calls _ _ #[.int .u8 75] _ fun e w' => e = .returned (.bool false) ∧ w = w'
    go_enter Tryd.func19, Tryd.ntmps19
    go_wp2
    go_ret
    exact ⟨rfl, rfl⟩
  · change Calls _ _ #[.int .u8 107] _ fun e w' => e = .returned (.bool false) ∧ w = w'
    go_enter Tryd.func19, Tryd.ntmps19
    go_wp2
    go_ret
    exact ⟨rfl, rfl⟩
  · change Calls _ _ #[.int .u8 139] _ fun e w' => e = .returned (.bool false) ∧ w = w'
    go_enter Tryd.func19, Tryd.ntmps19
    go_wp2
    go_ret
    exact ⟨rfl, rfl⟩
  · change Calls _ _ #[.int .u8 171] _ fun e w' => e = .returned (.bool false) ∧ w = w'
    go_enter Tryd.func19, Tryd.ntmps19
    go_wp2
    go_ret
    exact ⟨rfl, rfl⟩
  · change Calls _ _ #[.int .u8 203] _ fun e w' => e = .returned (.bool false) ∧ w = w'
    go_enter Tryd.func19, Tryd.ntmps19
    go_wp2
    go_ret
    exact ⟨rfl, rfl⟩
  · change Calls _ _ #[.int .u8 235] _ fun e w' => e = .returned (.bool false) ∧ w = w'
    go_enter Tryd.func19, Tryd.ntmps19
    go_wp2
    go_ret
    exact ⟨rfl, rfl⟩

set_option maxRecDepth 100000 in
set_option maxHeartbeats 4000000 in
theorem rknown_3_3 (w : World) (what : Int) (h0 : 0 ≤ what) (h7 : what ≤ 7) : Calls Tryd.prog 19 #[.int .u8 (32 * what + 15)] w fun e w' => e = .returned (.bool (known (32 * what + 15))) ∧ w = w' := by
  obtain rfl | rfl | rfl | rfl | rfl | rfl | rfl | rfl : what = 0 ∨ what = 1 ∨ what = 2 ∨ what = 3 ∨ what = 4 ∨ what = 5 ∨ what = 6 ∨ what = 7 := by omega
  · change Calls _ _ #[.int .u8 15] _ fun e w' => e = .returned (.bool false) ∧ w = w'
    go_enter Tryd.func19, Tryd.ntmps19
    go_wp2
    go_ret
    exact ⟨rfl, rfl⟩
  · change Calls _ _ #[.int .u8 47] _ fun e w' => e = .returned (.bool false) ∧ w = w'
    go_enter Tryd.func19, Tryd.ntmps19
    go_wp2
    go_ret
    exact ⟨rfl, rfl⟩
  · change Calls _ _ #[.int .u8 79] _ fun e w' => e = .returned (.bool false) ∧ w = w'
    go_enter Tryd.func19, Tryd.ntmps19
    go_wp2
    go_ret
    exact ⟨rfl, rfl⟩
  · change Calls _ _ #[.int .u8 111] _ fun e w' => e = .returned (.bool false) ∧ w = w'
    go_enter Tryd.func19, Tryd.ntmps19
    go_wp2
    go_ret
    exact ⟨rfl, rfl⟩
  · change Calls _ _ #[.int .u8 143] _ fun e w' => e = .returned (.bool false) ∧ w = w'
    go_enter Tryd.func19, Tryd.ntmps19
    go_wp2
    go_ret
    exact ⟨rfl, rfl⟩
  · change Calls _ _ #[.int .u8 175] _ fun e w' => e = .returned (.bool false) ∧ w = w'
    go_enter Tryd.func19, Tryd.ntmps19
    go_wp2
    go_ret
    exact ⟨rfl, rfl⟩
  · change Calls _ _ #[.int .u8 207] _ fun e w' => e = .returned (.bool false) ∧ w = w'
    go_enter Tryd.func19, Tryd.ntmps19
    go_wp2
    go_ret
    exact ⟨rfl, rfl⟩
  · change Calls _ _ #[.int .u8 239] _ fun e w' => e = .returned (.bool false) ∧ w = w'
    go_enter Tryd.func19, Tryd.ntmps19
    go_wp2
    go_ret
    exact ⟨rfl, rfl⟩

set_option maxRecDepth 100000 in
set_option maxHeartbeats 4000000 in
theorem rknown_3_4 (w : World) (what : Int) (h0 : 0 ≤ what) (h7 : what ≤ 7) : Calls Tryd.prog 19 #[.int .u8 (32 * what + 19)] w fun e w' => e = .returned (.bool (known (32 * what + 19))) ∧ w = w' := by
  obtain rfl | rfl | rfl | rfl | rfl | rfl | rfl | rfl : what = 0 ∨ what = 1 ∨ what = 2 ∨ what = 3 ∨ what = 4 ∨ what = 5 ∨ what = 6 ∨ what = 7 := by omega
  · change Calls _ _ #[.int .u8 19] _ fun e w' => e = .returned (.bool false) ∧ w = w'
    go_enter Tryd.func19, Tryd.ntmps19
    go_wp2
    go_ret
    exact ⟨rfl, rfl⟩
  · change Calls _ _ #[.int .u8 51] _ fun e w' => e = .returned (.bool false) ∧ w = w'
    go_enter Tryd.func19, Tryd.ntmps19
    go_wp2
    go_ret
    exact ⟨rfl, rfl⟩
  · change Calls _ _ #[.int .u8 83] _ fun e w' => e = .returned (.bool false) ∧ w = w'
    go_enter Tryd.func19, Tryd.ntmps19
    go_wp2
    go_ret
    exact ⟨rfl, rfl⟩
  · change Calls _ _ #[.int .u8 115] _ fun e w' => e = .returned (.bool false) ∧ w = w'
    go_enter Tryd.func19, Tryd.ntmps19
    go_wp2
    go_ret
    exact ⟨rfl, rfl⟩
  · change Calls _ _ #[.int .u8 147] _ fun e w' => e = .returned (.bool false) ∧ w = w'
    go_enter Tryd.func19, Tryd.ntmps19
    go_wp2
    go_ret
    exact ⟨rfl, rfl⟩
  · change Calls _ _ #[.int .u8 179] _ fun e w' => e = .returned (.bool false) ∧ w = w'
    go_enter Tryd.func19, Tryd.ntmps19
    go_wp2
    go_ret
    exact ⟨rfl, rfl⟩
  · change Calls _ _ #[.int .u8 211] _ fun e w' => e = .returned (.bool false) ∧ w = w'
    go_enter Tryd.func19, Tryd.ntmps19
    go_wp2
    go_ret
    exact ⟨rfl, rfl⟩
  · change Calls _ _ #[.int .u8 243] _ fun e w' => e = .returned (.bool false) ∧ w = w'
    go_enter Tryd.func19, Tryd.ntmps19
    go_wp2
    go_ret
    exact ⟨rfl, rfl⟩

set_option maxRecDepth 100000 in
set_option maxHeartbeats 4000000 in
theorem rknown_3_5 (w : World) (what : Int) (h0 : 0 ≤ what) (h7 : what ≤ 7) : Calls Tryd.prog 19 #[.int .u8 (32 * what + 23)] w fun e w' => e = .returned (.bool (known (32 * what + 23))) ∧ w = w' := by
  obtain rfl | rfl | rfl | rfl | rfl | rfl | rfl | rfl : what = 0 ∨ what = 1 ∨ what = 2 ∨ what = 3 ∨ what = 4 ∨ what = 5 ∨ what = 6 ∨ what = 7 := by omega
  · change Calls _ _ #[.int .u8 23] _ fun e w' => e = .returned (.bool false) ∧ w = w'
    go_enter Tryd.func19, Tryd.ntmps19
    go_wp2
    go_ret
    exact ⟨rfl, rfl⟩
  · change Calls _ _ #[.int .u8 55] _ fun e w' => e = .returned (.bool false) ∧ w = w'
    go_enter Tryd.func19, Tryd.ntmps19
    go_wp2
    go_ret
    exact ⟨rfl, rfl⟩
  · change Calls _ _ #[.int .u8 87] _ fun e w' => e = .returned (.bool false) ∧ w = w'
    go_enter Tryd.func19, Tryd.ntmps19
    go_wp2
    go_ret
    exact ⟨rfl, rfl⟩
  · change Calls _ _ #[.int .u8 119] _ fun e w' => e = .returned (.bool false) ∧ w = w'
    go_enter Tryd.func19, Tryd.ntmps19
    go_wp2
    go_ret
    exact ⟨rfl, rfl⟩
  · change Calls _ _ #[.int .u8 151] _ fun e w' => e = .returned (.bool false) ∧ w = w'
    go_enter Tryd.func19, Tryd.ntmps19
    go_wp2
    go_ret
    exact ⟨rfl, rfl⟩
  · change Calls _ _ #[.int .u8 183] _ fun e w' => e = .returned (.bool false) ∧ w = w'
    go_enter Tryd.func19, Tryd.ntmps19
    go_wp2
    go_ret
    exact ⟨rfl, rfl⟩
  · change Calls _ _ #[.int .u8 215] _ fun e w' => e = .returned (.bool false) ∧ w = w'
    go_enter Tryd.func19, Tryd.ntmps19
    go_wp2
    go_ret
    exact ⟨rfl, rfl⟩
  · change Calls _ _ #[.int .u8 247] _ fun e w' => e = .returned (.bool false) ∧ w = w'
    go_enter Tryd.func19, Tryd.ntmps19
    go_wp2
    go_ret
    exact ⟨rfl, rfl⟩

set_option maxRecDepth 100000 in
set_option maxHeartbeats 4000000 in
theorem rknown_3_6 (w : World) (what : Int) (h0 : 0 ≤ what) (h7 : what ≤ 7) : Calls Tryd.prog 19 #[.int .u8 (32 * what + 27)] w fun e w' => e = .returned (.bool (known (32 * what + 27))) ∧ w = w' := by
  obtain rfl | rfl | rfl | rfl | rfl | rfl | rfl | rfl : what = 0 ∨ what = 1 ∨ what = 2 ∨ what = 3 ∨ what = 4 ∨ what = 5 ∨ what = 6 ∨ what = 7 := by omega
  · change Calls _ _ #[.int .u8 27] _ fun e w' => e = .returned (.bool false) ∧ w = w'
    go_enter Tryd.func19, Tryd.ntmps19
    go_wp2
    go_ret
    exact ⟨rfl, rfl⟩
  · change Calls _ _ #[.int .u8 59] _ fun e w' => e = .returned (.bool false) ∧ w = w'
    go_enter Tryd.func19, Tryd.ntmps19
    go_wp2
    go_ret
    exact ⟨rfl, rfl⟩
  · change Calls _ _ #[.int .u8 91] _ fun e w' => e = .returned (.bool false) ∧ w = w'
    go_enter Tryd.func19, Tryd.ntmps19
    go_wp2
    go_ret
    exact ⟨rfl, rfl⟩
  · change Calls _ _ #[.int .u8 123] _ fun e w' => e = .returned (.bool false) ∧ w = w'
    go_enter Tryd.func19, Tryd.ntmps19
    go_wp2
    go_ret
    exact ⟨rfl, rfl⟩
  · change Calls _ _ #[.int .u8 155] _ fun e w' => e = .returned (.bool false) ∧ w = w'
    go_enter Tryd.func19, Tryd.ntmps19
    go_wp2
    go_ret
    exact ⟨rfl, rfl⟩
  · change Calls _ _ #[.int .u8 187] _ fun e w' => e = .returned (.bool false) ∧ w = w'
    go_enter Tryd.func19, Tryd.ntmps19
    go_wp2
    go_ret
    exact ⟨rfl, rfl⟩
  · change Calls _ _ #[.int .u8 219] _ fun e w' => e = .returned (.bool false) ∧ w = w'
    go_enter Tryd.func19, Tryd.ntmps19
    go_wp2
    go_ret
    exact ⟨rfl, rfl⟩
  · change Calls _ _ #[.int .u8 251] _ fun e w' => e = .returned (.bool false) ∧ w = w'
    go_enter Tryd.func19, Tryd.ntmps19
    go_wp2
    go_ret
    exact ⟨rfl, rfl⟩

set_option maxRecDepth 100000 in
set_option maxHeartbeats 4000000 in
theorem rknown_3_7 (w : World) (what : Int) (h0 : 0 ≤ what) (h7 : what ≤ 7) : Calls Tryd.prog 19 #[.int .u8 (32 * what + 31)] w fun e w' => e = .returned (.bool (known (32 * what + 31))) ∧ w = w' := by
  obtain rfl | rfl | rfl | rfl | rfl | rfl | rfl | rfl : what = 0 ∨ what = 1 ∨ what = 2 ∨ what = 3 ∨ what = 4 ∨ what = 5 ∨ what = 6 ∨ what = 7 := by omega
  · change Calls _ _ #[.int .u8 31] _ fun e w' => e = .returned (.bool false) ∧ w = w'
    go_enter Tryd.func19, Tryd.ntmps19
    go_wp2
    go_ret
    exact ⟨rfl, rfl⟩
  · change Calls _ _ #[.int .u8 63] _ fun e w' => e = .returned (.bool false) ∧ w = w'
    go_enter Tryd.func19, Tryd.ntmps19
    go_wp2
    go_ret
    exact ⟨rfl, rfl⟩
  · change Calls _ _ #[.int .u8 95] _ fun e w' => e = .returned (.bool false) ∧ w = w'
    go_enter Tryd.func19, Tryd.ntmps19
    go_wp2
    go_ret
    exact ⟨rfl, rfl⟩
  · change Calls _ _ #[.int .u8 127] _ fun e w' => e = .returned (.bool false) ∧ w = w'
    go_enter Tryd.func19, Tryd.ntmps19
    go_wp2
    go_ret
    exact ⟨rfl, rfl⟩
  · change Calls _ _ #[.int .u8 159] _ fun e w' => e = .returned (.bool false) ∧ w = w'
    go_enter Tryd.func19, Tryd.ntmps19
    go_wp2
    go_ret
    exact ⟨rfl, rfl⟩
  · change Calls _ _ #[.int .u8 191] _ fun e w' => e = .returned (.bool false) ∧ w = w'
    go_enter Tryd.func19, Tryd.ntmps19
    go_wp2
    go_ret
    exact ⟨rfl, rfl⟩
  · change Calls _ _ #[.int .u8 223] _ fun e w' => e = .returned (.bool false) ∧ w = w'
    go_enter Tryd.func19, Tryd.ntmps19
    go_wp2
    go_ret
    exact ⟨rfl, rfl⟩
  · change Calls _ _ #[.int .u8 255] _ fun e w' => e = .returned (.bool false) ∧ w = w'
    go_enter Tryd.func19, Tryd.ntmps19
    go_wp2
    go_ret
    exact ⟨rfl, rfl⟩

theorem rknown_any (w : World) (op : Int) (h : byte op) : Calls Tryd.prog 19 #[.int .u8 op] w fun e w' => e = .returned (.bool (known op)) ∧ w = w' := by
  obtain ⟨h0, h1⟩ := h
  obtain ⟨what, hw⟩ : ∃ z, op / 32 = z := ⟨_, rfl⟩
  obtain ⟨mode, hm⟩ : ∃ z, op / 4 % 8 = z := ⟨_, rfl⟩
  obtain ⟨cc, hc⟩ : ∃ z, op % 4 = z := ⟨_, rfl⟩
  obtain rfl : 32 * what + (4 * mode + cc) = op := by omega
  have w0 : 0 ≤ what := by omega
  have w7 : what ≤ 7 := by omega
  have m : mode = 0 ∨ mode = 1 ∨ mode = 2 ∨ mode = 3 ∨ mode = 4 ∨ mode = 5 ∨ mode = 6 ∨ mode = 7 := by omega
  have c : cc = 0 ∨ cc = 1 ∨ cc = 2 ∨ cc = 3 := by omega
  clear hw hm hc h0 h1
  rcases c with rfl | rfl | rfl | rfl
  · rcases m with rfl | rfl | rfl | rfl | rfl | rfl | rfl | rfl
    · exact rknown_0_0 w what w0 w7
    · exact rknown_0_1 w what w0 w7
    · exact rknown_0_2 w what w0 w7
    · exact rknown_0_3 w what w0 w7
    · exact rknown_0_4 w what w0 w7
    · exact rknown_0_5 w what w0 w7
    · exact rknown_0_6 w what w0 w7
    · exact rknown_0_7 w what w0 w7
  · rcases m with rfl | rfl | rfl | rfl | rfl | rfl | rfl | rfl
    · exact rknown_1_0 w what w0 w7
    · exact rknown_1_1 w what w0 w7
    · exact rknown_1_2 w what w0 w7
    · exact rknown_1_3 w what w0 w7
    · exact rknown_1_4 w what w0 w7
    · exact rknown_1_5 w what w0 w7
    · exact rknown_1_6 w what w0 w7
    · exact rknown_1_7 w what w0 w7
  · rcases m with rfl | rfl | rfl | rfl | rfl | rfl | rfl | rfl
    · exact rknown_2_0 w what w0 w7
    · exact rknown_2_1 w what w0 w7
    · exact rknown_2_2 w what w0 w7
    · exact rknown_2_3 w what w0 w7
    · exact rknown_2_4 w what w0 w7
    · exact rknown_2_5 w what w0 w7
    · exact rknown_2_6 w what w0 w7
    · exact rknown_2_7 w what w0 w7
  · rcases m with rfl | rfl | rfl | rfl | rfl | rfl | rfl | rfl
    · exact rknown_3_0 w what w0 w7
    · exact rknown_3_1 w what w0 w7
    · exact rknown_3_2 w what w0 w7
    · exact rknown_3_3 w what w0 w7
    · exact rknown_3_4 w what w0 w7
    · exact rknown_3_5 w what w0 w7
    · exact rknown_3_6 w what w0 w7
    · exact rknown_3_7 w what w0 w7

end Ms
end Go.Proofs.YtlnpadekgakghaaDoor
