/-
  Contract of crc's eightSteps.
-/
import Derived.Test.YtokfcknfkhlmfaaCrcSpell
import Derived.Test.YtokfcknfkhlmfaaApp
import Derived.BigQuiet
import Derived.Deep.QuietTactic
namespace Go.Proofs.Ytokfcknfkhlmfaa.Crc
open Go.RowKit

set_option maxHeartbeats 400000 in
theorem eight_any (w : World) (r : BitVec 32) :
    Calls Try.prog 81 #[.int .u32 (u r)] w fun e w' => e = .returned (.int .u32 (u (eight r))) ∧ w = w' := by
  go_enter Try.func81, Try.ntmps81
  go_wp2
  go_loop [0, 4] (fun v i => ∃ k : Nat, k ≤ 8 ∧ i = .int .i64 k ∧ v = .int .u32 (u (steps k r))) (fun _ i => 8 - (intOf i).toNat)
  case atStart => exact ⟨0, Nat.zero_le _, rfl, rfl⟩
  case round =>
    obtain ⟨k, hk, rfl, rfl⟩ := hrel
    by_cases hlt : k < 8
    · obtain ⟨s, hs⟩ : ∃ s, s = steps k r := ⟨_, rfl⟩
      rw [← hs]
      have HS : Hid (step s = steps (k + 1) r) := by rw [hs]; rfl
      clear hs
      cases hb : s.getLsbD 0 with
      | true =>
        have ho := out1 s hb
        have H1 := Lib.hid (step1 s hb)
        clear hb
        go_wp2
        exact ⟨⟨k + 1, by omega, by go_num, by rw [H1.out, HS.out]⟩, by simp [intOf]; omega⟩
      | false =>
        have ho := out0 s hb
        have H1 := Lib.hid (step0 s hb)
        clear hb
        go_wp2
        exact ⟨⟨k + 1, by omega, by go_num, by rw [H1.out, HS.out]⟩, by simp [intOf]; omega⟩
    · obtain rfl : k = 8 := by omega
      go_wp2
      go_ret
      exact ⟨rfl, rfl⟩

end Go.Proofs.Ytokfcknfkhlmfaa.Crc
