/-
  What the program's map tells. Condition: the state is one that there is.
-/
import Derived.Test.YtglnpgdigdfjiaaGmRegs
import Derived.BigQuiet
namespace Go.Proofs.Ytglnpgdigdfjiaa
open Go.RowKit
namespace Gm

set_option maxRecDepth 100000 in
set_option maxHeartbeats 4000000 in
theorem bank_0 (w : World) (p : Nat) (S : St) (a : Int) (h : ProgAt w p S) (hO : Ok S) (hk : S.kd = 0) (ha0 : 0 ≤ a) (ha1 : a < 32768) :
    Calls Try.prog 15 #[.pointer (some ⟨p, 0, none⟩), .int .u16 a] w fun e w' => e = .returned (.int .i64 (raw S a % S.banks)) ∧ ∃ n, w' = w.drewN n := by
  obtain ⟨d12, d13, d14, d15, d16, -⟩ := h.regs
  have hq : ∃ j, a / 16384 = j ∧ 0 ≤ j ∧ j < 2 := ⟨_, rfl, by omega, by omega⟩
  obtain ⟨j, hq, hj0, hj1⟩ := hq
  have hq' : a.tdiv 16384 = j := by rw [Int.tdiv_eq_ediv_of_nonneg ha0]; exact hq
  have wj : IntKind.u16.wrap j = j := by rw [IntKind.wrap_u16]; omega
  have hb := raw_bd S a hO
  have hbk := hO.banks
  have hz : (S.banks == 0) = false := by rw [beq_eq_false_iff_ne]; omega
  obtain ⟨X, hX⟩ : ∃ y, raw S a % S.banks = y := ⟨_, rfl⟩
  have hX' : (raw S a).tmod S.banks = X := by rw [Int.tmod_eq_emod_of_nonneg hb.1]; exact hX
  rw [hX]
  clear hX
  obtain rfl | rfl : j = 0 ∨ j = 1 := by omega
  · have hr : raw S a = 0 := by unfold raw; rw [if_pos (by omega), if_neg (by omega)]
    have d : w.cell? ⟨p, 9, none⟩ = some (.func (.func 25) #[] #[]) := by
      have := Blk.cell h 9
      rw [hk] at this
      exact this
    have HC : Hid (∀ n, Calls Try.prog 25 #[.pointer (some ⟨p, 12, none⟩)] (w.drewN n) fun e w' => e = .returned (.int .i64 (raw S a)) ∧ w.drewN n = w') := Lib.hid fun n => by
      rw [hr]
      have e13 : (w.drewN n).cell? ⟨p, 13, none⟩ = some (.int .i64 S.low) := d13
      have e14 : (w.drewN n).cell? ⟨p, 14, none⟩ = some (.int .i64 S.high) := d14
      have e15 : (w.drewN n).cell? ⟨p, 15, none⟩ = some (.int .i64 S.mode) := d15
      exact bank0_any (w.drewN n) p
    clear hr hO h d12 d13 d14 d15 hk
    obtain ⟨R, hR⟩ : ∃ y, raw S a = y := ⟨_, rfl⟩
    rw [hR] at HC hX' hb
    obtain ⟨hb0, hb1⟩ := hb
    clear hR
    generalize S.banks = banks at *
    go_enter Try.func15, Try.ntmps15
    go_upto_region 3 with fail
    go_quiet (first | (go_at_call 25; with_reducible exact Calls.quiet_of_same ((HC.out _).mono fun _ _ h => ⟨h.1, h.2.symm⟩)))
    go_wp2
    go_ret
    exact ⟨rfl, _, rfl⟩
  · have hr : raw S a = 1 := by unfold raw; rw [if_neg (by omega), if_pos hk]
    have d : w.cell? ⟨p, 10, none⟩ = some (.func (.func 26) #[] #[]) := by
      have := Blk.cell h 10
      rw [hk] at this
      exact this
    have HC : Hid (∀ n, Calls Try.prog 26 #[.pointer (some ⟨p, 12, none⟩)] (w.drewN n) fun e w' => e = .returned (.int .i64 (raw S a)) ∧ w.drewN n = w') := Lib.hid fun n => by
      rw [hr]
      have e13 : (w.drewN n).cell? ⟨p, 13, none⟩ = some (.int .i64 S.low) := d13
      have e14 : (w.drewN n).cell? ⟨p, 14, none⟩ = some (.int .i64 S.high) := d14
      have e15 : (w.drewN n).cell? ⟨p, 15, none⟩ = some (.int .i64 S.mode) := d15
      exact bank1_any (w.drewN n) p
    clear hr hO h d12 d13 d14 d15 hk
    obtain ⟨R, hR⟩ : ∃ y, raw S a = y := ⟨_, rfl⟩
    rw [hR] at HC hX' hb
    obtain ⟨hb0, hb1⟩ := hb
    clear hR
    generalize S.banks = banks at *
    go_enter Try.func15, Try.ntmps15
    go_upto_region 3 with fail
    go_quiet (first | (go_at_call 26; with_reducible exact Calls.quiet_of_same ((HC.out _).mono fun _ _ h => ⟨h.1, h.2.symm⟩)))
    go_wp2
    go_ret
    exact ⟨rfl, _, rfl⟩

set_option maxRecDepth 100000 in
set_option maxHeartbeats 4000000 in
theorem bank_1 (w : World) (p : Nat) (S : St) (a : Int) (h : ProgAt w p S) (hO : Ok S) (hk : S.kd = 1) (ha0 : 0 ≤ a) (ha1 : a < 32768) :
    Calls Try.prog 15 #[.pointer (some ⟨p, 0, none⟩), .int .u16 a] w fun e w' => e = .returned (.int .i64 (raw S a % S.banks)) ∧ ∃ n, w' = w.drewN n := by
  obtain ⟨d12, d13, d14, d15, d16, -⟩ := h.regs
  have hq : ∃ j, a / 16384 = j ∧ 0 ≤ j ∧ j < 2 := ⟨_, rfl, by omega, by omega⟩
  obtain ⟨j, hq, hj0, hj1⟩ := hq
  have hq' : a.tdiv 16384 = j := by rw [Int.tdiv_eq_ediv_of_nonneg ha0]; exact hq
  have wj : IntKind.u16.wrap j = j := by rw [IntKind.wrap_u16]; omega
  have hb := raw_bd S a hO
  have hbk := hO.banks
  have hz : (S.banks == 0) = false := by rw [beq_eq_false_iff_ne]; omega
  obtain ⟨X, hX⟩ : ∃ y, raw S a % S.banks = y := ⟨_, rfl⟩
  have hX' : (raw S a).tmod S.banks = X := by rw [Int.tmod_eq_emod_of_nonneg hb.1]; exact hX
  rw [hX]
  clear hX
  obtain rfl | rfl : j = 0 ∨ j = 1 := by omega
  · have hr : raw S a = (if S.mode = 1 then 32 * S.high else 0) := by unfold raw; rw [if_pos (by omega)]; by_cases hm : S.mode = 1 <;> simp [hm, hk]
    have d : w.cell? ⟨p, 9, none⟩ = some (.func (.func 31) #[] #[]) := by
      have := Blk.cell h 9
      rw [hk] at this
      exact this
    have HC : Hid (∀ n, Calls Try.prog 31 #[.pointer (some ⟨p, 12, none⟩)] (w.drewN n) fun e w' => e = .returned (.int .i64 (raw S a)) ∧ w.drewN n = w') := Lib.hid fun n => by
      rw [hr]
      have e13 : (w.drewN n).cell? ⟨p, 13, none⟩ = some (.int .i64 S.low) := d13
      have e14 : (w.drewN n).cell? ⟨p, 14, none⟩ = some (.int .i64 S.high) := d14
      have e15 : (w.drewN n).cell? ⟨p, 15, none⟩ = some (.int .i64 S.mode) := d15
      exact wideBank_any (w.drewN n) p S.high S.mode e14 e15 hO.mode hO.high
    clear hr hO h d12 d13 d14 d15 hk
    obtain ⟨R, hR⟩ : ∃ y, raw S a = y := ⟨_, rfl⟩
    rw [hR] at HC hX' hb
    obtain ⟨hb0, hb1⟩ := hb
    clear hR
    generalize S.banks = banks at *
    go_enter Try.func15, Try.ntmps15
    go_upto_region 3 with fail
    go_quiet (first | (go_at_call 31; with_reducible exact Calls.quiet_of_same ((HC.out _).mono fun _ _ h => ⟨h.1, h.2.symm⟩)))
    go_wp2
    go_ret
    exact ⟨rfl, _, rfl⟩
  · have hr : raw S a = 32 * S.high + S.low := by unfold raw; rw [if_neg (by omega), if_neg (by omega), if_pos hk]
    have d : w.cell? ⟨p, 10, none⟩ = some (.func (.func 32) #[] #[]) := by
      have := Blk.cell h 10
      rw [hk] at this
      exact this
    have HC : Hid (∀ n, Calls Try.prog 32 #[.pointer (some ⟨p, 12, none⟩)] (w.drewN n) fun e w' => e = .returned (.int .i64 (raw S a)) ∧ ∃ m, w' = (w.drewN n).drewN m) := Lib.hid fun n => by
      rw [hr]
      have e13 : (w.drewN n).cell? ⟨p, 13, none⟩ = some (.int .i64 S.low) := d13
      have e14 : (w.drewN n).cell? ⟨p, 14, none⟩ = some (.int .i64 S.high) := d14
      have e15 : (w.drewN n).cell? ⟨p, 15, none⟩ = some (.int .i64 S.mode) := d15
      exact wideAndLowBank_any (w.drewN n) p S.low S.high e13 e14 hO.high hO.low.1 hO.low.2
    clear hr hO h d12 d13 d14 d15 hk
    obtain ⟨R, hR⟩ : ∃ y, raw S a = y := ⟨_, rfl⟩
    rw [hR] at HC hX' hb
    obtain ⟨hb0, hb1⟩ := hb
    clear hR
    generalize S.banks = banks at *
    go_enter Try.func15, Try.ntmps15
    go_upto_region 3 with fail
    go_quiet (first | (go_at_call 32; with_reducible exact Calls.quiet_of (HC.out _)))
    go_wp2
    go_ret
    exact ⟨rfl, _, rfl⟩

set_option maxRecDepth 100000 in
set_option maxHeartbeats 4000000 in
theorem bank_3 (w : World) (p : Nat) (S : St) (a : Int) (h : ProgAt w p S) (hO : Ok S) (hk : S.kd = 3) (ha0 : 0 ≤ a) (ha1 : a < 32768) :
    Calls Try.prog 15 #[.pointer (some ⟨p, 0, none⟩), .int .u16 a] w fun e w' => e = .returned (.int .i64 (raw S a % S.banks)) ∧ ∃ n, w' = w.drewN n := by
  obtain ⟨d12, d13, d14, d15, d16, -⟩ := h.regs
  have hq : ∃ j, a / 16384 = j ∧ 0 ≤ j ∧ j < 2 := ⟨_, rfl, by omega, by omega⟩
  obtain ⟨j, hq, hj0, hj1⟩ := hq
  have hq' : a.tdiv 16384 = j := by rw [Int.tdiv_eq_ediv_of_nonneg ha0]; exact hq
  have wj : IntKind.u16.wrap j = j := by rw [IntKind.wrap_u16]; omega
  have hb := raw_bd S a hO
  have hbk := hO.banks
  have hz : (S.banks == 0) = false := by rw [beq_eq_false_iff_ne]; omega
  obtain ⟨X, hX⟩ : ∃ y, raw S a % S.banks = y := ⟨_, rfl⟩
  have hX' : (raw S a).tmod S.banks = X := by rw [Int.tmod_eq_emod_of_nonneg hb.1]; exact hX
  rw [hX]
  clear hX
  obtain rfl | rfl : j = 0 ∨ j = 1 := by omega
  · have hr : raw S a = 0 := by unfold raw; rw [if_pos (by omega), if_neg (by omega)]
    have d : w.cell? ⟨p, 9, none⟩ = some (.func (.func 25) #[] #[]) := by
      have := Blk.cell h 9
      rw [hk] at this
      exact this
    have HC : Hid (∀ n, Calls Try.prog 25 #[.pointer (some ⟨p, 12, none⟩)] (w.drewN n) fun e w' => e = .returned (.int .i64 (raw S a)) ∧ w.drewN n = w') := Lib.hid fun n => by
      rw [hr]
      have e13 : (w.drewN n).cell? ⟨p, 13, none⟩ = some (.int .i64 S.low) := d13
      have e14 : (w.drewN n).cell? ⟨p, 14, none⟩ = some (.int .i64 S.high) := d14
      have e15 : (w.drewN n).cell? ⟨p, 15, none⟩ = some (.int .i64 S.mode) := d15
      exact bank0_any (w.drewN n) p
    clear hr hO h d12 d13 d14 d15 hk
    obtain ⟨R, hR⟩ : ∃ y, raw S a = y := ⟨_, rfl⟩
    rw [hR] at HC hX' hb
    obtain ⟨hb0, hb1⟩ := hb
    clear hR
    generalize S.banks = banks at *
    go_enter Try.func15, Try.ntmps15
    go_upto_region 3 with fail
    go_quiet (first | (go_at_call 25; with_reducible exact Calls.quiet_of_same ((HC.out _).mono fun _ _ h => ⟨h.1, h.2.symm⟩)))
    go_wp2
    go_ret
    exact ⟨rfl, _, rfl⟩
  · have hr : raw S a = S.low := by unfold raw; rw [if_neg (by omega), if_neg (by omega), if_neg (by omega)]
    have d : w.cell? ⟨p, 10, none⟩ = some (.func (.func 36) #[] #[]) := by
      have := Blk.cell h 10
      rw [hk] at this
      exact this
    have HC : Hid (∀ n, Calls Try.prog 36 #[.pointer (some ⟨p, 12, none⟩)] (w.drewN n) fun e w' => e = .returned (.int .i64 (raw S a)) ∧ w.drewN n = w') := Lib.hid fun n => by
      rw [hr]
      have e13 : (w.drewN n).cell? ⟨p, 13, none⟩ = some (.int .i64 S.low) := d13
      have e14 : (w.drewN n).cell? ⟨p, 14, none⟩ = some (.int .i64 S.high) := d14
      have e15 : (w.drewN n).cell? ⟨p, 15, none⟩ = some (.int .i64 S.mode) := d15
      exact lowBank_any (w.drewN n) p S.low e13
    clear hr hO h d12 d13 d14 d15 hk
    obtain ⟨R, hR⟩ : ∃ y, raw S a = y := ⟨_, rfl⟩
    rw [hR] at HC hX' hb
    obtain ⟨hb0, hb1⟩ := hb
    clear hR
    generalize S.banks = banks at *
    go_enter Try.func15, Try.ntmps15
    go_upto_region 3 with fail
    go_quiet (first | (go_at_call 36; with_reducible exact Calls.quiet_of_same ((HC.out _).mono fun _ _ h => ⟨h.1, h.2.symm⟩)))
    go_wp2
    go_ret
    exact ⟨rfl, _, rfl⟩

set_option maxRecDepth 100000 in
set_option maxHeartbeats 4000000 in
theorem bank_5 (w : World) (p : Nat) (S : St) (a : Int) (h : ProgAt w p S) (hO : Ok S) (hk : S.kd = 5) (ha0 : 0 ≤ a) (ha1 : a < 32768) :
    Calls Try.prog 15 #[.pointer (some ⟨p, 0, none⟩), .int .u16 a] w fun e w' => e = .returned (.int .i64 (raw S a % S.banks)) ∧ ∃ n, w' = w.drewN n := by
  obtain ⟨d12, d13, d14, d15, d16, -⟩ := h.regs
  have hq : ∃ j, a / 16384 = j ∧ 0 ≤ j ∧ j < 2 := ⟨_, rfl, by omega, by omega⟩
  obtain ⟨j, hq, hj0, hj1⟩ := hq
  have hq' : a.tdiv 16384 = j := by rw [Int.tdiv_eq_ediv_of_nonneg ha0]; exact hq
  have wj : IntKind.u16.wrap j = j := by rw [IntKind.wrap_u16]; omega
  have hb := raw_bd S a hO
  have hbk := hO.banks
  have hz : (S.banks == 0) = false := by rw [beq_eq_false_iff_ne]; omega
  obtain ⟨X, hX⟩ : ∃ y, raw S a % S.banks = y := ⟨_, rfl⟩
  have hX' : (raw S a).tmod S.banks = X := by rw [Int.tmod_eq_emod_of_nonneg hb.1]; exact hX
  rw [hX]
  clear hX
  obtain rfl | rfl : j = 0 ∨ j = 1 := by omega
  · have hr : raw S a = 0 := by unfold raw; rw [if_pos (by omega), if_neg (by omega)]
    have d : w.cell? ⟨p, 9, none⟩ = some (.func (.func 25) #[] #[]) := by
      have := Blk.cell h 9
      rw [hk] at this
      exact this
    have HC : Hid (∀ n, Calls Try.prog 25 #[.pointer (some ⟨p, 12, none⟩)] (w.drewN n) fun e w' => e = .returned (.int .i64 (raw S a)) ∧ w.drewN n = w') := Lib.hid fun n => by
      rw [hr]
      have e13 : (w.drewN n).cell? ⟨p, 13, none⟩ = some (.int .i64 S.low) := d13
      have e14 : (w.drewN n).cell? ⟨p, 14, none⟩ = some (.int .i64 S.high) := d14
      have e15 : (w.drewN n).cell? ⟨p, 15, none⟩ = some (.int .i64 S.mode) := d15
      exact bank0_any (w.drewN n) p
    clear hr hO h d12 d13 d14 d15 hk
    obtain ⟨R, hR⟩ : ∃ y, raw S a = y := ⟨_, rfl⟩
    rw [hR] at HC hX' hb
    obtain ⟨hb0, hb1⟩ := hb
    clear hR
    generalize S.banks = banks at *
    go_enter Try.func15, Try.ntmps15
    go_upto_region 3 with fail
    go_quiet (first | (go_at_call 25; with_reducible exact Calls.quiet_of_same ((HC.out _).mono fun _ _ h => ⟨h.1, h.2.symm⟩)))
    go_wp2
    go_ret
    exact ⟨rfl, _, rfl⟩
  · have hr : raw S a = S.low := by unfold raw; rw [if_neg (by omega), if_neg (by omega), if_neg (by omega)]
    have d : w.cell? ⟨p, 10, none⟩ = some (.func (.func 36) #[] #[]) := by
      have := Blk.cell h 10
      rw [hk] at this
      exact this
    have HC : Hid (∀ n, Calls Try.prog 36 #[.pointer (some ⟨p, 12, none⟩)] (w.drewN n) fun e w' => e = .returned (.int .i64 (raw S a)) ∧ w.drewN n = w') := Lib.hid fun n => by
      rw [hr]
      have e13 : (w.drewN n).cell? ⟨p, 13, none⟩ = some (.int .i64 S.low) := d13
      have e14 : (w.drewN n).cell? ⟨p, 14, none⟩ = some (.int .i64 S.high) := d14
      have e15 : (w.drewN n).cell? ⟨p, 15, none⟩ = some (.int .i64 S.mode) := d15
      exact lowBank_any (w.drewN n) p S.low e13
    clear hr hO h d12 d13 d14 d15 hk
    obtain ⟨R, hR⟩ : ∃ y, raw S a = y := ⟨_, rfl⟩
    rw [hR] at HC hX' hb
    obtain ⟨hb0, hb1⟩ := hb
    clear hR
    generalize S.banks = banks at *
    go_enter Try.func15, Try.ntmps15
    go_upto_region 3 with fail
    go_quiet (first | (go_at_call 36; with_reducible exact Calls.quiet_of_same ((HC.out _).mono fun _ _ h => ⟨h.1, h.2.symm⟩)))
    go_wp2
    go_ret
    exact ⟨rfl, _, rfl⟩

set_option maxRecDepth 100000 in
set_option maxHeartbeats 4000000 in
theorem pbank_any (w : World) (p : Nat) (S : St) (a : Int) (h : ProgAt w p S) (hO : Ok S) (ha0 : 0 ≤ a) (ha1 : a < 65536) :
    Calls Try.prog 15 #[.pointer (some ⟨p, 0, none⟩), .int .u16 a] w fun e w' => e = .returned (.int .i64 (bankOf S a)) ∧ ∃ n, w' = w.drewN n := by
  unfold bankOf
  by_cases hh : 32768 ≤ a
  · rw [if_pos hh]
    clear h hO
    go_enter Try.func15, Try.ntmps15
    go_wp2
    go_ret
    exact ⟨rfl, 0, rfl⟩
  · have hlt : a < 32768 := by omega
    rw [if_neg hh]
    rcases hO.kd with hk | hk | hk | hk
    · exact bank_0 w p S a h hO hk ha0 hlt
    · exact bank_1 w p S a h hO hk ha0 hlt
    · exact bank_3 w p S a h hO hk ha0 hlt
    · exact bank_5 w p S a h hO hk ha0 hlt

set_option maxRecDepth 100000 in
set_option maxHeartbeats 4000000 in
theorem prom_any (w : World) (p : Nat) (S : St) (a : Int) (h : ProgAt w p S) (hO : Ok S) (ha0 : 0 ≤ a) (ha1 : a < 65536) :
    Calls Try.prog 14 #[.pointer (some ⟨p, 0, none⟩), .int .u16 a] w fun e w' => e = .returned (.int .i64 (romOf S a)) ∧ ∃ n, w' = w.drewN n := by
  have HB := Lib.hid (pbank_any w p S a h hO ha0 ha1)
  have hb := bankOf_bd S a hO
  have hbk := hO.banks
  clear h hO
  unfold romOf
  by_cases hh : 32768 ≤ a
  · rw [if_pos hh]
    clear HB hb
    go_enter Try.func14, Try.ntmps14
    go_wp2
    go_ret
    exact ⟨rfl, 0, rfl⟩
  · rw [if_neg hh]
    obtain ⟨hb0, hb1⟩ := hb (by omega)
    generalize bankOf S a = B at *
    generalize S.banks = banks at *
    obtain ⟨z, hz⟩ : ∃ z, a % 16384 = z := ⟨_, rfl⟩
    have hz' : a.tmod 16384 = z := by rw [Int.tmod_eq_emod_of_nonneg ha0]; exact hz
    have hz0 : 0 ≤ z := by omega
    have hz1 : z < 16384 := by omega
    obtain ⟨Y, hY⟩ : ∃ y, B * 16384 = y := ⟨_, rfl⟩
    obtain ⟨N, hN⟩ : ∃ y, Y + z = y := ⟨_, rfl⟩
    have hY0 : 0 ≤ Y := by omega
    have hY1 : Y < 20000000000 := by omega
    rw [hz, hY, hN]
    clear hz hb
    go_enter Try.func14, Try.ntmps14
    go_wp2_with fail
    (with_reducible refine HB.out.mono ?_)
    rintro e w1 ⟨rfl, n, rfl⟩
    go_wp2
    go_ret
    exact ⟨rfl, _, rfl⟩

set_option maxRecDepth 100000 in
set_option maxHeartbeats 4000000 in
theorem ram_0 (w : World) (p : Nat) (S : St) (a : Int) (h : ProgAt w p S) (hO : Ok S) (hk : S.kd = 0) (ha0 : 40960 ≤ a) (ha1 : a < 49152) (hen : S.en = true) (hs : ¬ S.size = 0) :
    Calls Try.prog 13 #[.pointer (some ⟨p, 0, none⟩), .int .u16 a] w fun e w' => e = .returned (.int .i64 ((rbank S * 8192 + (a - 40960)) % S.size)) ∧ ∃ n, w' = w.drewN n := by
  obtain ⟨d12, d13, d14, d15, -, d17⟩ := h.regs
  rw [hen] at d12
  have hb := rbank_bd S hO
  have hsz := hO.size
  have hz : (S.size == 0) = false := by rw [beq_eq_false_iff_ne]; exact hs
  have hs1 : 1 ≤ S.size := by omega
  have hr : rbank S = 0 := by unfold rbank; rw [if_pos (.inl hk)]
  have d : w.cell? ⟨p, 11, none⟩ = some (.func (.func 25) #[] #[]) := by
    have := Blk.cell h 11
    rw [hk] at this
    exact this
  have HC : Hid (∀ n, Calls Try.prog 25 #[.pointer (some ⟨p, 12, none⟩)] (w.drewN n) fun e w' => e = .returned (.int .i64 (rbank S)) ∧ w.drewN n = w') := Lib.hid fun n => by
    have e14 : (w.drewN n).cell? ⟨p, 14, none⟩ = some (.int .i64 S.high) := d14
    have e15 : (w.drewN n).cell? ⟨p, 15, none⟩ = some (.int .i64 S.mode) := d15
    have hx := bank0_any (w.drewN n) p
    rw [hr]
    exact hx
  clear hr hO h d13 d14 d15 hk hen hs
  generalize rbank S = B at *
  generalize S.size = size at *
  obtain ⟨hb0, hb1⟩ := hb
  obtain ⟨A, hA⟩ : ∃ y, a - 40960 = y := ⟨_, rfl⟩
  have hA0 : 0 ≤ A := by omega
  have hA1 : A < 8192 := by omega
  obtain ⟨Y, hY⟩ : ∃ y, B * 8192 = y := ⟨_, rfl⟩
  obtain ⟨N, hN⟩ : ∃ y, Y + A = y := ⟨_, rfl⟩
  have hY0 : 0 ≤ Y := by omega
  have hY1 : Y < 3000000 := by omega
  have hN0 : 0 ≤ N := by omega
  rw [hA, hY, hN]
  obtain ⟨X, hX⟩ : ∃ y, N % size = y := ⟨_, rfl⟩
  have hX' : N.tmod size = X := by rw [Int.tmod_eq_emod_of_nonneg hN0]; exact hX
  rw [hX]
  have hB : (B == -1) = false := by rw [beq_eq_false_iff_ne]; omega
  clear hX
  go_enter Try.func13, Try.ntmps13
  go_upto_region 3 with fail
  go_quiet (first | (go_at_call 25; with_reducible exact Calls.quiet_of_same ((HC.out _).mono fun _ _ h => ⟨h.1, h.2.symm⟩)))
  go_wp2
  go_ret
  exact ⟨rfl, _, rfl⟩

set_option maxRecDepth 100000 in
set_option maxHeartbeats 4000000 in
theorem ram_1 (w : World) (p : Nat) (S : St) (a : Int) (h : ProgAt w p S) (hO : Ok S) (hk : S.kd = 1) (ha0 : 40960 ≤ a) (ha1 : a < 49152) (hen : S.en = true) (hs : ¬ S.size = 0) :
    Calls Try.prog 13 #[.pointer (some ⟨p, 0, none⟩), .int .u16 a] w fun e w' => e = .returned (.int .i64 ((rbank S * 8192 + (a - 40960)) % S.size)) ∧ ∃ n, w' = w.drewN n := by
  obtain ⟨d12, d13, d14, d15, -, d17⟩ := h.regs
  rw [hen] at d12
  have hb := rbank_bd S hO
  have hsz := hO.size
  have hz : (S.size == 0) = false := by rw [beq_eq_false_iff_ne]; exact hs
  have hs1 : 1 ≤ S.size := by omega
  have hr : rbank S = (if S.mode = 1 then S.high else 0) := by unfold rbank; rcases hO.mode with hm | hm <;> simp [hm, hk]
  have d : w.cell? ⟨p, 11, none⟩ = some (.func (.func 33) #[] #[]) := by
    have := Blk.cell h 11
    rw [hk] at this
    exact this
  have HC : Hid (∀ n, Calls Try.prog 33 #[.pointer (some ⟨p, 12, none⟩)] (w.drewN n) fun e w' => e = .returned (.int .i64 (rbank S)) ∧ w.drewN n = w') := Lib.hid fun n => by
    have e14 : (w.drewN n).cell? ⟨p, 14, none⟩ = some (.int .i64 S.high) := d14
    have e15 : (w.drewN n).cell? ⟨p, 15, none⟩ = some (.int .i64 S.mode) := d15
    have hx := highBankIfMode_any (w.drewN n) p S.high S.mode e14 e15 hO.mode
    rw [hr]
    exact hx
  clear hr hO h d13 d14 d15 hk hen hs
  generalize rbank S = B at *
  generalize S.size = size at *
  obtain ⟨hb0, hb1⟩ := hb
  obtain ⟨A, hA⟩ : ∃ y, a - 40960 = y := ⟨_, rfl⟩
  have hA0 : 0 ≤ A := by omega
  have hA1 : A < 8192 := by omega
  obtain ⟨Y, hY⟩ : ∃ y, B * 8192 = y := ⟨_, rfl⟩
  obtain ⟨N, hN⟩ : ∃ y, Y + A = y := ⟨_, rfl⟩
  have hY0 : 0 ≤ Y := by omega
  have hY1 : Y < 3000000 := by omega
  have hN0 : 0 ≤ N := by omega
  rw [hA, hY, hN]
  obtain ⟨X, hX⟩ : ∃ y, N % size = y := ⟨_, rfl⟩
  have hX' : N.tmod size = X := by rw [Int.tmod_eq_emod_of_nonneg hN0]; exact hX
  rw [hX]
  have hB : (B == -1) = false := by rw [beq_eq_false_iff_ne]; omega
  clear hX
  go_enter Try.func13, Try.ntmps13
  go_upto_region 3 with fail
  go_quiet (first | (go_at_call 33; with_reducible exact Calls.quiet_of_same ((HC.out _).mono fun _ _ h => ⟨h.1, h.2.symm⟩)))
  go_wp2
  go_ret
  exact ⟨rfl, _, rfl⟩

set_option maxRecDepth 100000 in
set_option maxHeartbeats 4000000 in
theorem ram_3 (w : World) (p : Nat) (S : St) (a : Int) (h : ProgAt w p S) (hO : Ok S) (hk : S.kd = 3) (ha0 : 40960 ≤ a) (ha1 : a < 49152) (hen : S.en = true) (hs : ¬ S.size = 0) (h4 : S.high ≤ 3) :
    Calls Try.prog 13 #[.pointer (some ⟨p, 0, none⟩), .int .u16 a] w fun e w' => e = .returned (.int .i64 ((rbank S * 8192 + (a - 40960)) % S.size)) ∧ ∃ n, w' = w.drewN n := by
  obtain ⟨d12, d13, d14, d15, -, d17⟩ := h.regs
  rw [hen] at d12
  have hb := rbank_bd S hO
  have hsz := hO.size
  have hz : (S.size == 0) = false := by rw [beq_eq_false_iff_ne]; exact hs
  have hs1 : 1 ≤ S.size := by omega
  have hr : rbank S = S.high := by unfold rbank; rw [if_neg (by omega)]
  have d : w.cell? ⟨p, 11, none⟩ = some (.func (.func 37) #[] #[]) := by
    have := Blk.cell h 11
    rw [hk] at this
    exact this
  have HC : Hid (∀ n, Calls Try.prog 37 #[.pointer (some ⟨p, 12, none⟩)] (w.drewN n) fun e w' => e = .returned (.int .i64 (rbank S)) ∧ w.drewN n = w') := Lib.hid fun n => by
    have e14 : (w.drewN n).cell? ⟨p, 14, none⟩ = some (.int .i64 S.high) := d14
    have e15 : (w.drewN n).cell? ⟨p, 15, none⟩ = some (.int .i64 S.mode) := d15
    have hx := highBankIfFew_any (w.drewN n) p S.high e14 hO.high
    rw [if_neg (by omega)] at hx
    rw [hr]
    exact hx
  clear hr hO h d13 d14 d15 hk hen hs h4
  generalize rbank S = B at *
  generalize S.size = size at *
  obtain ⟨hb0, hb1⟩ := hb
  obtain ⟨A, hA⟩ : ∃ y, a - 40960 = y := ⟨_, rfl⟩
  have hA0 : 0 ≤ A := by omega
  have hA1 : A < 8192 := by omega
  obtain ⟨Y, hY⟩ : ∃ y, B * 8192 = y := ⟨_, rfl⟩
  obtain ⟨N, hN⟩ : ∃ y, Y + A = y := ⟨_, rfl⟩
  have hY0 : 0 ≤ Y := by omega
  have hY1 : Y < 3000000 := by omega
  have hN0 : 0 ≤ N := by omega
  rw [hA, hY, hN]
  obtain ⟨X, hX⟩ : ∃ y, N % size = y := ⟨_, rfl⟩
  have hX' : N.tmod size = X := by rw [Int.tmod_eq_emod_of_nonneg hN0]; exact hX
  rw [hX]
  have hB : (B == -1) = false := by rw [beq_eq_false_iff_ne]; omega
  clear hX
  go_enter Try.func13, Try.ntmps13
  go_upto_region 3 with fail
  go_quiet (first | (go_at_call 37; with_reducible exact Calls.quiet_of_same ((HC.out _).mono fun _ _ h => ⟨h.1, h.2.symm⟩)))
  go_wp2
  go_ret
  exact ⟨rfl, _, rfl⟩

set_option maxRecDepth 100000 in
set_option maxHeartbeats 4000000 in
theorem ram_5 (w : World) (p : Nat) (S : St) (a : Int) (h : ProgAt w p S) (hO : Ok S) (hk : S.kd = 5) (ha0 : 40960 ≤ a) (ha1 : a < 49152) (hen : S.en = true) (hs : ¬ S.size = 0) :
    Calls Try.prog 13 #[.pointer (some ⟨p, 0, none⟩), .int .u16 a] w fun e w' => e = .returned (.int .i64 ((rbank S * 8192 + (a - 40960)) % S.size)) ∧ ∃ n, w' = w.drewN n := by
  obtain ⟨d12, d13, d14, d15, -, d17⟩ := h.regs
  rw [hen] at d12
  have hb := rbank_bd S hO
  have hsz := hO.size
  have hz : (S.size == 0) = false := by rw [beq_eq_false_iff_ne]; exact hs
  have hs1 : 1 ≤ S.size := by omega
  have hr : rbank S = S.high := by unfold rbank; rw [if_neg (by omega)]
  have d : w.cell? ⟨p, 11, none⟩ = some (.func (.func 41) #[] #[]) := by
    have := Blk.cell h 11
    rw [hk] at this
    exact this
  have HC : Hid (∀ n, Calls Try.prog 41 #[.pointer (some ⟨p, 12, none⟩)] (w.drewN n) fun e w' => e = .returned (.int .i64 (rbank S)) ∧ w.drewN n = w') := Lib.hid fun n => by
    have e14 : (w.drewN n).cell? ⟨p, 14, none⟩ = some (.int .i64 S.high) := d14
    have e15 : (w.drewN n).cell? ⟨p, 15, none⟩ = some (.int .i64 S.mode) := d15
    have hx := highBank_any (w.drewN n) p S.high e14
    rw [hr]
    exact hx
  clear hr hO h d13 d14 d15 hk hen hs
  generalize rbank S = B at *
  generalize S.size = size at *
  obtain ⟨hb0, hb1⟩ := hb
  obtain ⟨A, hA⟩ : ∃ y, a - 40960 = y := ⟨_, rfl⟩
  have hA0 : 0 ≤ A := by omega
  have hA1 : A < 8192 := by omega
  obtain ⟨Y, hY⟩ : ∃ y, B * 8192 = y := ⟨_, rfl⟩
  obtain ⟨N, hN⟩ : ∃ y, Y + A = y := ⟨_, rfl⟩
  have hY0 : 0 ≤ Y := by omega
  have hY1 : Y < 3000000 := by omega
  have hN0 : 0 ≤ N := by omega
  rw [hA, hY, hN]
  obtain ⟨X, hX⟩ : ∃ y, N % size = y := ⟨_, rfl⟩
  have hX' : N.tmod size = X := by rw [Int.tmod_eq_emod_of_nonneg hN0]; exact hX
  rw [hX]
  have hB : (B == -1) = false := by rw [beq_eq_false_iff_ne]; omega
  clear hX
  go_enter Try.func13, Try.ntmps13
  go_upto_region 3 with fail
  go_quiet (first | (go_at_call 41; with_reducible exact Calls.quiet_of_same ((HC.out _).mono fun _ _ h => ⟨h.1, h.2.symm⟩)))
  go_wp2
  go_ret
  exact ⟨rfl, _, rfl⟩

set_option maxRecDepth 100000 in
set_option maxHeartbeats 4000000 in
theorem ram_few (w : World) (p : Nat) (S : St) (a : Int) (h : ProgAt w p S) (hO : Ok S) (hk : S.kd = 3) (ha0 : 40960 ≤ a) (ha1 : a < 49152) (hen : S.en = true) (hs : ¬ S.size = 0) (h4 : 3 < S.high) :
    Calls Try.prog 13 #[.pointer (some ⟨p, 0, none⟩), .int .u16 a] w fun e w' => e = .returned (.int .i64 (-1)) ∧ ∃ n, w' = w.drewN n := by
  obtain ⟨d12, d13, d14, d15, -, d17⟩ := h.regs
  rw [hen] at d12
  have hsz := hO.size
  have hz : (S.size == 0) = false := by rw [beq_eq_false_iff_ne]; exact hs
  have d : w.cell? ⟨p, 11, none⟩ = some (.func (.func 37) #[] #[]) := by
    have := Blk.cell h 11
    rw [hk] at this
    exact this
  have HC : Hid (∀ n, Calls Try.prog 37 #[.pointer (some ⟨p, 12, none⟩)] (w.drewN n) fun e w' => e = .returned (.int .i64 (-1)) ∧ w.drewN n = w') := Lib.hid fun n => by
    have e14 : (w.drewN n).cell? ⟨p, 14, none⟩ = some (.int .i64 S.high) := d14
    have hx := highBankIfFew_any (w.drewN n) p S.high e14 hO.high
    rw [if_pos h4] at hx
    exact hx
  clear hO h d13 d14 d15 hk hen hs h4
  generalize S.size = size at *
  go_enter Try.func13, Try.ntmps13
  go_upto_region 3 with fail
  go_quiet (first | (go_at_call 37; with_reducible exact Calls.quiet_of_same ((HC.out _).mono fun _ _ h => ⟨h.1, h.2.symm⟩)))
  go_wp2
  go_ret
  exact ⟨rfl, _, rfl⟩

set_option maxRecDepth 100000 in
set_option maxHeartbeats 4000000 in
theorem pram_any (w : World) (p : Nat) (S : St) (a : Int) (h : ProgAt w p S) (hO : Ok S) (ha0 : 0 ≤ a) (ha1 : a < 65536) :
    Calls Try.prog 13 #[.pointer (some ⟨p, 0, none⟩), .int .u16 a] w fun e w' => e = .returned (.int .i64 (ramOf S a)) ∧ ∃ n, w' = w.drewN n := by
  have hr := h.regs
  obtain ⟨d12, -, -, -, -, d17⟩ := hr
  unfold ramOf
  by_cases h1 : a < 40960
  · rw [if_pos (.inl h1)]
    clear h hO
    go_enter Try.func13, Try.ntmps13
    go_wp2
    go_ret
    exact ⟨rfl, 0, rfl⟩
  by_cases h2 : 49152 ≤ a
  · rw [if_pos (.inr (.inl h2))]
    clear h hO
    go_enter Try.func13, Try.ntmps13
    go_wp2
    go_ret
    exact ⟨rfl, 0, rfl⟩
  have h1' : 40960 ≤ a := by omega
  have h2' : a < 49152 := by omega
  by_cases h3 : S.size = 0
  · rw [if_pos (.inr (.inr (.inr (.inl h3))))]
    rw [h3] at d17
    clear h hO h3
    go_enter Try.func13, Try.ntmps13
    go_wp2
    go_ret
    exact ⟨rfl, 0, rfl⟩
  have hz : (S.size == 0) = false := by rw [beq_eq_false_iff_ne]; exact h3
  cases hen : S.en
  · rw [if_pos (.inr (.inr (.inl rfl)))]
    rw [hen] at d12
    clear h hO hen h3
    generalize S.size = size at *
    go_enter Try.func13, Try.ntmps13
    go_wp2
    go_ret
    exact ⟨rfl, 0, rfl⟩
  · rcases hO.kd with hk | hk | hk | hk
    · rw [if_neg (by simp; omega)]
      exact ram_0 w p S a h hO hk h1' h2' hen h3
    · rw [if_neg (by simp; omega)]
      exact ram_1 w p S a h hO hk h1' h2' hen h3
    · by_cases h4 : 3 < S.high
      · rw [if_pos (.inr (.inr (.inr (.inr ⟨hk, h4⟩))))]
        exact ram_few w p S a h hO hk h1' h2' hen h3 h4
      · rw [if_neg (by simp; omega)]
        exact ram_3 w p S a h hO hk h1' h2' hen h3 (by omega)
    · rw [if_neg (by simp; omega)]
      exact ram_5 w p S a h hO hk h1' h2' hen h3

end Gm
end Go.Proofs.Ytglnpgdigdfjiaa
