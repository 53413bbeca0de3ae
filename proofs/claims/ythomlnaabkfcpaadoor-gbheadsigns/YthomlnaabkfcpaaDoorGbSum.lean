/-
  Contracts of gbhead.headSum and of the document's Sum: both tell the head's sum, and turn nothing.
-/
import Derived.Test.YthomlnaabkfcpaaDoorGbMath
namespace Go.Proofs.YthomlnaabkfcpaaDoor
open Go.RowKit
namespace Gb

theorem step_u8 (s y : Nat) (hs : s < 256) (hy : y < 256) : ((s : Int) - ((y : Int) + 1) % 256) % 256 = (((s + 511 - y) % 256 : Nat) : Int) := by
  omega
theorem step_int (s y : Nat) (hs : s < 256) (hy : y < 256) : (wrap64 ((s : Int) + 511 - wrap64 (y : Int))).tmod 256 = (((s + 511 - y) % 256 : Nat) : Int) := by
  have e1 : wrap64 (y : Int) = y := by unfold wrap64; omega
  rw [e1]
  have e2 : wrap64 ((s : Int) + 511 - y) = (s : Int) + 511 - y := by unfold wrap64; omega
  rw [e2, Int.tmod_eq_emod_of_nonneg (by omega)]
  omega

set_option maxRecDepth 100000 in
set_option maxHeartbeats 1000000 in
theorem headSum_any (w : World) (A : Option Addr) (n c : Nat) (l : List UInt8) (hn : l.length = n) (hnc : n ≤ c) (hr : Rd w A l) (h : 333 < n) :
    Calls Tryd.prog 16 #[.slice A n c] w fun e w' => e = .returned (.int .u8 (gsum l : Int)) ∧ w = w' := by
  obtain ⟨b, o, rfl, hc⟩ := hr (by omega)
  have h1 : (333 : Int) ≤ c := by omega
  have h1' : 333 ≤ c := by omega
  have hcell : ∀ k, k < 25 → w.cell? ⟨b, o + 308 + k, none⟩ = some (.int .u8 (bt l (308 + k) : Int)) := by
    intro k hk
    rw [Nat.add_assoc, hc (308 + k) (by omega), bt_get l (308 + k) (by omega)]
  have HC := Lib.hid hcell
  clear hcell hr hc
  go_enter Tryd.func16, Tryd.ntmps16
  go_wp2
  go_loopw [3, 5, 9] (fun s3 _ s9 wr => ∃ k : Nat, s3 = .int .u8 (sumK l k : Int) ∧ s9 = .int .i64 (k : Int) ∧ k ≤ 25 ∧ wr = w) (fun _ _ s9 _ => 25 - (intOf s9).toNat)
  case atStart => exact ⟨0, rfl, rfl, by omega, rfl⟩
  case round =>
    obtain ⟨k, rfl, rfl, hk, rfl⟩ := hrel
    by_cases hlt : k < 25
    · have h2 : (k : Int) < 25 := by omega
      have h0 : (0 : Int) ≤ k := by omega
      have hb := bt_lt l (308 + k)
      have hs := sumK_lt l k
      obtain ⟨y, hy⟩ : ∃ y, bt l (308 + k) = y := ⟨_, rfl⟩
      have c1 : wr.cell? ⟨b, o + 308 + k, none⟩ = some (.int .u8 (y : Int)) := by rw [← hy]; exact HC.out k hlt
      have HY := Lib.hid hy
      clear hy
      go_wp2
      go_roundw
      case rel =>
        refine ⟨k + 1, ?_, by go_num, by omega, trivial⟩
        have e := step_u8 (sumK l k) y hs (by rw [← HY.out]; exact hb)
        simp only [sumK, HY.out]
        rw [← e]
      case measure => simp [intOf]; omega
    · obtain rfl : k = 25 := by omega
      go_wp2
      go_ret
      exact ⟨rfl, rfl⟩

set_option maxRecDepth 100000 in
set_option maxHeartbeats 1000000 in
theorem rsum_any (w : World) (A : Option Addr) (n c : Nat) (l : List UInt8) (hn : l.length = n) (hr : Rd w A l) (h : 333 < n) :
    Calls Tryd.prog 10 #[.slice A n c] w fun e w' => e = .returned (.int .u8 (gsum l : Int)) ∧ w = w' := by
  obtain ⟨b, o, rfl, hc⟩ := hr (by omega)
  have h1 : (333 : Int) < n := by omega
  have hcell : ∀ k, k < 25 → w.cell? ⟨b, o + (308 + k), none⟩ = some (.int .u8 (bt l (308 + k) : Int)) := by
    intro k hk
    rw [hc (308 + k) (by omega), bt_get l (308 + k) (by omega)]
  have HC := Lib.hid hcell
  clear hcell hr hc
  go_enter Tryd.func10, Tryd.ntmps10
  go_wp2
  go_loopw [3, 4] (fun s3 s4 wr => ∃ k p : Nat, s3 = .int .i64 (sumK l k : Int) ∧ s4 = .int .i64 (p : Int) ∧ k ≤ 25 ∧ 308 + k = p ∧ wr = w) (fun _ s4 _ => 333 - (intOf s4).toNat)
  case atStart => exact ⟨0, 308, rfl, rfl, by omega, rfl, rfl⟩
  case round =>
    obtain ⟨k, p, rfl, rfl, hk, hp, rfl⟩ := hrel
    by_cases hlt : k < 25
    · have h2 : (p : Int) ≤ 332 := by omega
      have h0 : (0 : Int) ≤ p := by omega
      have h3 : (p : Int) < n := by omega
      have hb := bt_lt l (308 + k)
      have hs := sumK_lt l k
      obtain ⟨y, hy⟩ : ∃ y, bt l (308 + k) = y := ⟨_, rfl⟩
      have c1 : wr.cell? ⟨b, o + p, none⟩ = some (.int .u8 (y : Int)) := by rw [← hy, ← hp]; exact HC.out k hlt
      have HY := Lib.hid hy
      obtain ⟨s, hs'⟩ : ∃ s, sumK l k = s := ⟨_, rfl⟩
      have HS := Lib.hid hs'
      rw [hs'] at hs
      rw [hs']
      clear hy hs'
      go_wp2
      go_roundw
      case rel =>
        refine ⟨k + 1, p + 1, ?_, by go_num, by omega, by omega, trivial⟩
        have e := step_int s y hs (by rw [← HY.out]; exact hb)
        simp only [sumK, HY.out, HS.out]
        have hy2 : y < 256 := by rw [← HY.out]; exact hb
        rw [← e]
      case measure => simp [intOf]; omega
    · obtain rfl : k = 25 := by omega
      obtain rfl : p = 333 := by omega
      have hs := sumK_lt l 25
      go_wp2
      go_ret
      refine ⟨?_, rfl⟩
      unfold gsum
      go_num

end Gb
end Go.Proofs.YthomlnaabkfcpaaDoor
