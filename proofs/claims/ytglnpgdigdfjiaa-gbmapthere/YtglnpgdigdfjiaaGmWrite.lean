/-
  Contract of the program's Write. Condition: the state is one that there is.
-/
import Derived.Test.YtglnpgdigdfjiaaGmRegs
namespace Go.Proofs.Ytglnpgdigdfjiaa
open Go.RowKit
namespace Gm

set_option maxRecDepth 100000 in
set_option maxHeartbeats 4000000 in
theorem write0 (w : World) (p : Nat) (S : St) (a v : Int) (h : ProgAt w p S) (hO : Ok S) (hk : S.kd = 0) (ha0 : 0 ≤ a) (ha1 : a < 32768) (hv : byte v) :
    Calls Try.prog 10 #[.pointer (some ⟨p, 0, none⟩), .int .u16 a, .int .u8 v] w (PDone w p (wr S a v)) := by
  have _ := hO
  have _ := hv
  have hd : ProgAt w.drew p S := h
  have hfd : Fr [p] w w.drew := (Fr.refl [p] w).drew
  obtain ⟨d12, d13, d14, d15, -, -⟩ := hd.regs
  have f12 := Blk.frozen hd 12
  have f13 := Blk.frozen hd 13
  have f14 := Blk.frozen hd 14
  have f15 := Blk.frozen hd 15
  have hq : ∃ j, a / 4096 = j ∧ 0 ≤ j ∧ j < 8 := ⟨_, rfl, by omega, by omega⟩
  obtain ⟨j, hq, hj0, hj1⟩ := hq
  have hq' : a.tdiv 4096 = j := by rw [Int.tdiv_eq_ediv_of_nonneg ha0]; exact hq
  have wj : IntKind.u16.wrap j = j := by rw [IntKind.wrap_u16]; omega
  obtain rfl | rfl | rfl | rfl | rfl | rfl | rfl | rfl : j = 0 ∨ j = 1 ∨ j = 2 ∨ j = 3 ∨ j = 4 ∨ j = 5 ∨ j = 6 ∨ j = 7 := by omega
  · have hw : wr S a v = S := by unfold wr; rw [if_pos (.inl hk)]
    have d : w.cell? ⟨p, 1, none⟩ = some (.func (.func 24) #[] #[]) := by
      have := Blk.cell h 1
      rw [hk] at this
      exact this
    have HC : Hid (Calls Try.prog 24 #[.pointer (some ⟨p, 12, none⟩), .int .u8 v] w.drew (Kept w.drew)) := Lib.hid (ignore_any w.drew p v)
    have HP : Hid (∀ e w', Kept w.drew e w' → PDone w p (wr S a v) e w') := Lib.hid fun e w' h => ⟨h.1, by rw [h.2, hw]; exact hd, by rw [h.2]; exact hfd⟩
    clear hw h hO hd hfd d12 d13 d14 d15 f12 f13 f14 f15 hk hq
    generalize wr S a v = T at *
    go_enter Try.func10, Try.ntmps10
    go_upto_region 1 with fail
    go_still_tail 12, (by kernel_rfl)
    repeat still_step
    change wpList _ _ _ _ _ w.drew
    go_wp2_with fail
    (with_reducible refine HC.out.mono ?_)
    rintro e w1 hx
    have HD := Lib.hid (HP.out e w1 hx)
    obtain ⟨rfl, -⟩ := hx
    clear HP HC
    go_wp2
    (first | go_end0 | refine bodyPost_ret (results_none rfl _ _ _) rfl ?_)
    exact HD.out
  · have hw : wr S a v = S := by unfold wr; rw [if_pos (.inl hk)]
    have d : w.cell? ⟨p, 2, none⟩ = some (.func (.func 24) #[] #[]) := by
      have := Blk.cell h 2
      rw [hk] at this
      exact this
    have HC : Hid (Calls Try.prog 24 #[.pointer (some ⟨p, 12, none⟩), .int .u8 v] w.drew (Kept w.drew)) := Lib.hid (ignore_any w.drew p v)
    have HP : Hid (∀ e w', Kept w.drew e w' → PDone w p (wr S a v) e w') := Lib.hid fun e w' h => ⟨h.1, by rw [h.2, hw]; exact hd, by rw [h.2]; exact hfd⟩
    clear hw h hO hd hfd d12 d13 d14 d15 f12 f13 f14 f15 hk hq
    generalize wr S a v = T at *
    go_enter Try.func10, Try.ntmps10
    go_upto_region 1 with fail
    go_still_tail 12, (by kernel_rfl)
    repeat still_step
    change wpList _ _ _ _ _ w.drew
    go_wp2_with fail
    (with_reducible refine HC.out.mono ?_)
    rintro e w1 hx
    have HD := Lib.hid (HP.out e w1 hx)
    obtain ⟨rfl, -⟩ := hx
    clear HP HC
    go_wp2
    (first | go_end0 | refine bodyPost_ret (results_none rfl _ _ _) rfl ?_)
    exact HD.out
  · have hw : wr S a v = S := by unfold wr; rw [if_pos (.inl hk)]
    have d : w.cell? ⟨p, 3, none⟩ = some (.func (.func 24) #[] #[]) := by
      have := Blk.cell h 3
      rw [hk] at this
      exact this
    have HC : Hid (Calls Try.prog 24 #[.pointer (some ⟨p, 12, none⟩), .int .u8 v] w.drew (Kept w.drew)) := Lib.hid (ignore_any w.drew p v)
    have HP : Hid (∀ e w', Kept w.drew e w' → PDone w p (wr S a v) e w') := Lib.hid fun e w' h => ⟨h.1, by rw [h.2, hw]; exact hd, by rw [h.2]; exact hfd⟩
    clear hw h hO hd hfd d12 d13 d14 d15 f12 f13 f14 f15 hk hq
    generalize wr S a v = T at *
    go_enter Try.func10, Try.ntmps10
    go_upto_region 1 with fail
    go_still_tail 12, (by kernel_rfl)
    repeat still_step
    change wpList _ _ _ _ _ w.drew
    go_wp2_with fail
    (with_reducible refine HC.out.mono ?_)
    rintro e w1 hx
    have HD := Lib.hid (HP.out e w1 hx)
    obtain ⟨rfl, -⟩ := hx
    clear HP HC
    go_wp2
    (first | go_end0 | refine bodyPost_ret (results_none rfl _ _ _) rfl ?_)
    exact HD.out
  · have hw : wr S a v = S := by unfold wr; rw [if_pos (.inl hk)]
    have d : w.cell? ⟨p, 4, none⟩ = some (.func (.func 24) #[] #[]) := by
      have := Blk.cell h 4
      rw [hk] at this
      exact this
    have HC : Hid (Calls Try.prog 24 #[.pointer (some ⟨p, 12, none⟩), .int .u8 v] w.drew (Kept w.drew)) := Lib.hid (ignore_any w.drew p v)
    have HP : Hid (∀ e w', Kept w.drew e w' → PDone w p (wr S a v) e w') := Lib.hid fun e w' h => ⟨h.1, by rw [h.2, hw]; exact hd, by rw [h.2]; exact hfd⟩
    clear hw h hO hd hfd d12 d13 d14 d15 f12 f13 f14 f15 hk hq
    generalize wr S a v = T at *
    go_enter Try.func10, Try.ntmps10
    go_upto_region 1 with fail
    go_still_tail 12, (by kernel_rfl)
    repeat still_step
    change wpList _ _ _ _ _ w.drew
    go_wp2_with fail
    (with_reducible refine HC.out.mono ?_)
    rintro e w1 hx
    have HD := Lib.hid (HP.out e w1 hx)
    obtain ⟨rfl, -⟩ := hx
    clear HP HC
    go_wp2
    (first | go_end0 | refine bodyPost_ret (results_none rfl _ _ _) rfl ?_)
    exact HD.out
  · have hw : wr S a v = S := by unfold wr; rw [if_pos (.inl hk)]
    have d : w.cell? ⟨p, 5, none⟩ = some (.func (.func 24) #[] #[]) := by
      have := Blk.cell h 5
      rw [hk] at this
      exact this
    have HC : Hid (Calls Try.prog 24 #[.pointer (some ⟨p, 12, none⟩), .int .u8 v] w.drew (Kept w.drew)) := Lib.hid (ignore_any w.drew p v)
    have HP : Hid (∀ e w', Kept w.drew e w' → PDone w p (wr S a v) e w') := Lib.hid fun e w' h => ⟨h.1, by rw [h.2, hw]; exact hd, by rw [h.2]; exact hfd⟩
    clear hw h hO hd hfd d12 d13 d14 d15 f12 f13 f14 f15 hk hq
    generalize wr S a v = T at *
    go_enter Try.func10, Try.ntmps10
    go_upto_region 1 with fail
    go_still_tail 12, (by kernel_rfl)
    repeat still_step
    change wpList _ _ _ _ _ w.drew
    go_wp2_with fail
    (with_reducible refine HC.out.mono ?_)
    rintro e w1 hx
    have HD := Lib.hid (HP.out e w1 hx)
    obtain ⟨rfl, -⟩ := hx
    clear HP HC
    go_wp2
    (first | go_end0 | refine bodyPost_ret (results_none rfl _ _ _) rfl ?_)
    exact HD.out
  · have hw : wr S a v = S := by unfold wr; rw [if_pos (.inl hk)]
    have d : w.cell? ⟨p, 6, none⟩ = some (.func (.func 24) #[] #[]) := by
      have := Blk.cell h 6
      rw [hk] at this
      exact this
    have HC : Hid (Calls Try.prog 24 #[.pointer (some ⟨p, 12, none⟩), .int .u8 v] w.drew (Kept w.drew)) := Lib.hid (ignore_any w.drew p v)
    have HP : Hid (∀ e w', Kept w.drew e w' → PDone w p (wr S a v) e w') := Lib.hid fun e w' h => ⟨h.1, by rw [h.2, hw]; exact hd, by rw [h.2]; exact hfd⟩
    clear hw h hO hd hfd d12 d13 d14 d15 f12 f13 f14 f15 hk hq
    generalize wr S a v = T at *
    go_enter Try.func10, Try.ntmps10
    go_upto_region 1 with fail
    go_still_tail 12, (by kernel_rfl)
    repeat still_step
    change wpList _ _ _ _ _ w.drew
    go_wp2_with fail
    (with_reducible refine HC.out.mono ?_)
    rintro e w1 hx
    have HD := Lib.hid (HP.out e w1 hx)
    obtain ⟨rfl, -⟩ := hx
    clear HP HC
    go_wp2
    (first | go_end0 | refine bodyPost_ret (results_none rfl _ _ _) rfl ?_)
    exact HD.out
  · have hw : wr S a v = S := by unfold wr; rw [if_pos (.inl hk)]
    have d : w.cell? ⟨p, 7, none⟩ = some (.func (.func 24) #[] #[]) := by
      have := Blk.cell h 7
      rw [hk] at this
      exact this
    have HC : Hid (Calls Try.prog 24 #[.pointer (some ⟨p, 12, none⟩), .int .u8 v] w.drew (Kept w.drew)) := Lib.hid (ignore_any w.drew p v)
    have HP : Hid (∀ e w', Kept w.drew e w' → PDone w p (wr S a v) e w') := Lib.hid fun e w' h => ⟨h.1, by rw [h.2, hw]; exact hd, by rw [h.2]; exact hfd⟩
    clear hw h hO hd hfd d12 d13 d14 d15 f12 f13 f14 f15 hk hq
    generalize wr S a v = T at *
    go_enter Try.func10, Try.ntmps10
    go_upto_region 1 with fail
    go_still_tail 12, (by kernel_rfl)
    repeat still_step
    change wpList _ _ _ _ _ w.drew
    go_wp2_with fail
    (with_reducible refine HC.out.mono ?_)
    rintro e w1 hx
    have HD := Lib.hid (HP.out e w1 hx)
    obtain ⟨rfl, -⟩ := hx
    clear HP HC
    go_wp2
    (first | go_end0 | refine bodyPost_ret (results_none rfl _ _ _) rfl ?_)
    exact HD.out
  · have hw : wr S a v = S := by unfold wr; rw [if_pos (.inl hk)]
    have d : w.cell? ⟨p, 8, none⟩ = some (.func (.func 24) #[] #[]) := by
      have := Blk.cell h 8
      rw [hk] at this
      exact this
    have HC : Hid (Calls Try.prog 24 #[.pointer (some ⟨p, 12, none⟩), .int .u8 v] w.drew (Kept w.drew)) := Lib.hid (ignore_any w.drew p v)
    have HP : Hid (∀ e w', Kept w.drew e w' → PDone w p (wr S a v) e w') := Lib.hid fun e w' h => ⟨h.1, by rw [h.2, hw]; exact hd, by rw [h.2]; exact hfd⟩
    clear hw h hO hd hfd d12 d13 d14 d15 f12 f13 f14 f15 hk hq
    generalize wr S a v = T at *
    go_enter Try.func10, Try.ntmps10
    go_upto_region 1 with fail
    go_still_tail 12, (by kernel_rfl)
    repeat still_step
    change wpList _ _ _ _ _ w.drew
    go_wp2_with fail
    (with_reducible refine HC.out.mono ?_)
    rintro e w1 hx
    have HD := Lib.hid (HP.out e w1 hx)
    obtain ⟨rfl, -⟩ := hx
    clear HP HC
    go_wp2
    (first | go_end0 | refine bodyPost_ret (results_none rfl _ _ _) rfl ?_)
    exact HD.out

set_option maxRecDepth 100000 in
set_option maxHeartbeats 4000000 in
theorem write1 (w : World) (p : Nat) (S : St) (a v : Int) (h : ProgAt w p S) (hO : Ok S) (hk : S.kd = 1) (ha0 : 0 ≤ a) (ha1 : a < 32768) (hv : byte v) :
    Calls Try.prog 10 #[.pointer (some ⟨p, 0, none⟩), .int .u16 a, .int .u8 v] w (PDone w p (wr S a v)) := by
  have _ := hO
  have _ := hv
  have hd : ProgAt w.drew p S := h
  have hfd : Fr [p] w w.drew := (Fr.refl [p] w).drew
  obtain ⟨d12, d13, d14, d15, -, -⟩ := hd.regs
  have f12 := Blk.frozen hd 12
  have f13 := Blk.frozen hd 13
  have f14 := Blk.frozen hd 14
  have f15 := Blk.frozen hd 15
  have hq : ∃ j, a / 4096 = j ∧ 0 ≤ j ∧ j < 8 := ⟨_, rfl, by omega, by omega⟩
  obtain ⟨j, hq, hj0, hj1⟩ := hq
  have hq' : a.tdiv 4096 = j := by rw [Int.tdiv_eq_ediv_of_nonneg ha0]; exact hq
  have wj : IntKind.u16.wrap j = j := by rw [IntKind.wrap_u16]; omega
  obtain rfl | rfl | rfl | rfl | rfl | rfl | rfl | rfl : j = 0 ∨ j = 1 ∨ j = 2 ∨ j = 3 ∨ j = 4 ∨ j = 5 ∨ j = 6 ∨ j = 7 := by omega
  · have hw : wr S a v = { S with en := v % 16 == 10 } := by unfold wr; rw [if_neg (by omega), if_pos (by omega)]
    have d : w.cell? ⟨p, 1, none⟩ = some (.func (.func 27) #[] #[]) := by
      have := Blk.cell h 1
      rw [hk] at this
      exact this
    have HC : Hid (Calls Try.prog 27 #[.pointer (some ⟨p, 12, none⟩), .int .u8 v] w.drew (Putd w.drew p (12 + 0) (.bool (v % 16 == 10)))) := Lib.hid (enable_any w.drew p v _ d12 f12 hv)
    have HP : Hid (∀ e w', Putd w.drew p (12 + 0) (.bool (v % 16 == 10)) e w' → PDone w p (wr S a v) e w') := Lib.hid fun e w' h => by rw [hw]; exact Putd.done h hd hfd _ rfl rfl
    clear hw h hO hd hfd d12 d13 d14 d15 f12 f13 f14 f15 hk hq
    generalize wr S a v = T at *
    go_enter Try.func10, Try.ntmps10
    go_upto_region 1 with fail
    go_still_tail 12, (by kernel_rfl)
    repeat still_step
    change wpList _ _ _ _ _ w.drew
    go_wp2_with fail
    (with_reducible refine HC.out.mono ?_)
    rintro e w1 hx
    have HD := Lib.hid (HP.out e w1 hx)
    obtain ⟨rfl, -⟩ := hx
    clear HP HC
    go_wp2
    (first | go_end0 | refine bodyPost_ret (results_none rfl _ _ _) rfl ?_)
    exact HD.out
  · have hw : wr S a v = { S with en := v % 16 == 10 } := by unfold wr; rw [if_neg (by omega), if_pos (by omega)]
    have d : w.cell? ⟨p, 2, none⟩ = some (.func (.func 27) #[] #[]) := by
      have := Blk.cell h 2
      rw [hk] at this
      exact this
    have HC : Hid (Calls Try.prog 27 #[.pointer (some ⟨p, 12, none⟩), .int .u8 v] w.drew (Putd w.drew p (12 + 0) (.bool (v % 16 == 10)))) := Lib.hid (enable_any w.drew p v _ d12 f12 hv)
    have HP : Hid (∀ e w', Putd w.drew p (12 + 0) (.bool (v % 16 == 10)) e w' → PDone w p (wr S a v) e w') := Lib.hid fun e w' h => by rw [hw]; exact Putd.done h hd hfd _ rfl rfl
    clear hw h hO hd hfd d12 d13 d14 d15 f12 f13 f14 f15 hk hq
    generalize wr S a v = T at *
    go_enter Try.func10, Try.ntmps10
    go_upto_region 1 with fail
    go_still_tail 12, (by kernel_rfl)
    repeat still_step
    change wpList _ _ _ _ _ w.drew
    go_wp2_with fail
    (with_reducible refine HC.out.mono ?_)
    rintro e w1 hx
    have HD := Lib.hid (HP.out e w1 hx)
    obtain ⟨rfl, -⟩ := hx
    clear HP HC
    go_wp2
    (first | go_end0 | refine bodyPost_ret (results_none rfl _ _ _) rfl ?_)
    exact HD.out
  · have hw : wr S a v = { S with low := least (v % 32) } := by unfold wr; rw [if_neg (by omega), if_neg (by omega), if_pos (by omega), if_pos hk]
    have d : w.cell? ⟨p, 3, none⟩ = some (.func (.func 28) #[] #[]) := by
      have := Blk.cell h 3
      rw [hk] at this
      exact this
    have HC : Hid (Calls Try.prog 28 #[.pointer (some ⟨p, 12, none⟩), .int .u8 v] w.drew (Putd w.drew p (12 + 1) (.int .i64 (least (v % 32))))) := Lib.hid (setLow5_any w.drew p v _ d13 f13 hv)
    have HP : Hid (∀ e w', Putd w.drew p (12 + 1) (.int .i64 (least (v % 32))) e w' → PDone w p (wr S a v) e w') := Lib.hid fun e w' h => by rw [hw]; exact Putd.done h hd hfd _ rfl rfl
    clear hw h hO hd hfd d12 d13 d14 d15 f12 f13 f14 f15 hk hq
    generalize wr S a v = T at *
    go_enter Try.func10, Try.ntmps10
    go_upto_region 1 with fail
    go_still_tail 12, (by kernel_rfl)
    repeat still_step
    change wpList _ _ _ _ _ w.drew
    go_wp2_with fail
    (with_reducible refine HC.out.mono ?_)
    rintro e w1 hx
    have HD := Lib.hid (HP.out e w1 hx)
    obtain ⟨rfl, -⟩ := hx
    clear HP HC
    go_wp2
    (first | go_end0 | refine bodyPost_ret (results_none rfl _ _ _) rfl ?_)
    exact HD.out
  · have hw : wr S a v = { S with low := least (v % 32) } := by unfold wr; rw [if_neg (by omega), if_neg (by omega), if_pos (by omega), if_pos hk]
    have d : w.cell? ⟨p, 4, none⟩ = some (.func (.func 28) #[] #[]) := by
      have := Blk.cell h 4
      rw [hk] at this
      exact this
    have HC : Hid (Calls Try.prog 28 #[.pointer (some ⟨p, 12, none⟩), .int .u8 v] w.drew (Putd w.drew p (12 + 1) (.int .i64 (least (v % 32))))) := Lib.hid (setLow5_any w.drew p v _ d13 f13 hv)
    have HP : Hid (∀ e w', Putd w.drew p (12 + 1) (.int .i64 (least (v % 32))) e w' → PDone w p (wr S a v) e w') := Lib.hid fun e w' h => by rw [hw]; exact Putd.done h hd hfd _ rfl rfl
    clear hw h hO hd hfd d12 d13 d14 d15 f12 f13 f14 f15 hk hq
    generalize wr S a v = T at *
    go_enter Try.func10, Try.ntmps10
    go_upto_region 1 with fail
    go_still_tail 12, (by kernel_rfl)
    repeat still_step
    change wpList _ _ _ _ _ w.drew
    go_wp2_with fail
    (with_reducible refine HC.out.mono ?_)
    rintro e w1 hx
    have HD := Lib.hid (HP.out e w1 hx)
    obtain ⟨rfl, -⟩ := hx
    clear HP HC
    go_wp2
    (first | go_end0 | refine bodyPost_ret (results_none rfl _ _ _) rfl ?_)
    exact HD.out
  · have hw : wr S a v = { S with high := v % 4 } := by unfold wr; rw [if_neg (by omega), if_neg (by omega), if_neg (by omega), if_pos (by omega), if_pos hk]
    have d : w.cell? ⟨p, 5, none⟩ = some (.func (.func 29) #[] #[]) := by
      have := Blk.cell h 5
      rw [hk] at this
      exact this
    have HC : Hid (Calls Try.prog 29 #[.pointer (some ⟨p, 12, none⟩), .int .u8 v] w.drew (Putd w.drew p (12 + 2) (.int .i64 (v % 4)))) := Lib.hid (setHigh2_any w.drew p v _ d14 f14 hv)
    have HP : Hid (∀ e w', Putd w.drew p (12 + 2) (.int .i64 (v % 4)) e w' → PDone w p (wr S a v) e w') := Lib.hid fun e w' h => by rw [hw]; exact Putd.done h hd hfd _ rfl rfl
    clear hw h hO hd hfd d12 d13 d14 d15 f12 f13 f14 f15 hk hq
    generalize wr S a v = T at *
    go_enter Try.func10, Try.ntmps10
    go_upto_region 1 with fail
    go_still_tail 12, (by kernel_rfl)
    repeat still_step
    change wpList _ _ _ _ _ w.drew
    go_wp2_with fail
    (with_reducible refine HC.out.mono ?_)
    rintro e w1 hx
    have HD := Lib.hid (HP.out e w1 hx)
    obtain ⟨rfl, -⟩ := hx
    clear HP HC
    go_wp2
    (first | go_end0 | refine bodyPost_ret (results_none rfl _ _ _) rfl ?_)
    exact HD.out
  · have hw : wr S a v = { S with high := v % 4 } := by unfold wr; rw [if_neg (by omega), if_neg (by omega), if_neg (by omega), if_pos (by omega), if_pos hk]
    have d : w.cell? ⟨p, 6, none⟩ = some (.func (.func 29) #[] #[]) := by
      have := Blk.cell h 6
      rw [hk] at this
      exact this
    have HC : Hid (Calls Try.prog 29 #[.pointer (some ⟨p, 12, none⟩), .int .u8 v] w.drew (Putd w.drew p (12 + 2) (.int .i64 (v % 4)))) := Lib.hid (setHigh2_any w.drew p v _ d14 f14 hv)
    have HP : Hid (∀ e w', Putd w.drew p (12 + 2) (.int .i64 (v % 4)) e w' → PDone w p (wr S a v) e w') := Lib.hid fun e w' h => by rw [hw]; exact Putd.done h hd hfd _ rfl rfl
    clear hw h hO hd hfd d12 d13 d14 d15 f12 f13 f14 f15 hk hq
    generalize wr S a v = T at *
    go_enter Try.func10, Try.ntmps10
    go_upto_region 1 with fail
    go_still_tail 12, (by kernel_rfl)
    repeat still_step
    change wpList _ _ _ _ _ w.drew
    go_wp2_with fail
    (with_reducible refine HC.out.mono ?_)
    rintro e w1 hx
    have HD := Lib.hid (HP.out e w1 hx)
    obtain ⟨rfl, -⟩ := hx
    clear HP HC
    go_wp2
    (first | go_end0 | refine bodyPost_ret (results_none rfl _ _ _) rfl ?_)
    exact HD.out
  · have hw : wr S a v = { S with mode := v % 2 } := by unfold wr; rw [if_neg (by omega), if_neg (by omega), if_neg (by omega), if_neg (by omega), if_pos hk]
    have d : w.cell? ⟨p, 7, none⟩ = some (.func (.func 30) #[] #[]) := by
      have := Blk.cell h 7
      rw [hk] at this
      exact this
    have HC : Hid (Calls Try.prog 30 #[.pointer (some ⟨p, 12, none⟩), .int .u8 v] w.drew (Putd w.drew p (12 + 3) (.int .i64 (v % 2)))) := Lib.hid (setMode_any w.drew p v _ d15 f15 hv)
    have HP : Hid (∀ e w', Putd w.drew p (12 + 3) (.int .i64 (v % 2)) e w' → PDone w p (wr S a v) e w') := Lib.hid fun e w' h => by rw [hw]; exact Putd.done h hd hfd _ rfl rfl
    clear hw h hO hd hfd d12 d13 d14 d15 f12 f13 f14 f15 hk hq
    generalize wr S a v = T at *
    go_enter Try.func10, Try.ntmps10
    go_upto_region 1 with fail
    go_still_tail 12, (by kernel_rfl)
    repeat still_step
    change wpList _ _ _ _ _ w.drew
    go_wp2_with fail
    (with_reducible refine HC.out.mono ?_)
    rintro e w1 hx
    have HD := Lib.hid (HP.out e w1 hx)
    obtain ⟨rfl, -⟩ := hx
    clear HP HC
    go_wp2
    (first | go_end0 | refine bodyPost_ret (results_none rfl _ _ _) rfl ?_)
    exact HD.out
  · have hw : wr S a v = { S with mode := v % 2 } := by unfold wr; rw [if_neg (by omega), if_neg (by omega), if_neg (by omega), if_neg (by omega), if_pos hk]
    have d : w.cell? ⟨p, 8, none⟩ = some (.func (.func 30) #[] #[]) := by
      have := Blk.cell h 8
      rw [hk] at this
      exact this
    have HC : Hid (Calls Try.prog 30 #[.pointer (some ⟨p, 12, none⟩), .int .u8 v] w.drew (Putd w.drew p (12 + 3) (.int .i64 (v % 2)))) := Lib.hid (setMode_any w.drew p v _ d15 f15 hv)
    have HP : Hid (∀ e w', Putd w.drew p (12 + 3) (.int .i64 (v % 2)) e w' → PDone w p (wr S a v) e w') := Lib.hid fun e w' h => by rw [hw]; exact Putd.done h hd hfd _ rfl rfl
    clear hw h hO hd hfd d12 d13 d14 d15 f12 f13 f14 f15 hk hq
    generalize wr S a v = T at *
    go_enter Try.func10, Try.ntmps10
    go_upto_region 1 with fail
    go_still_tail 12, (by kernel_rfl)
    repeat still_step
    change wpList _ _ _ _ _ w.drew
    go_wp2_with fail
    (with_reducible refine HC.out.mono ?_)
    rintro e w1 hx
    have HD := Lib.hid (HP.out e w1 hx)
    obtain ⟨rfl, -⟩ := hx
    clear HP HC
    go_wp2
    (first | go_end0 | refine bodyPost_ret (results_none rfl _ _ _) rfl ?_)
    exact HD.out

set_option maxRecDepth 100000 in
set_option maxHeartbeats 4000000 in
theorem write3 (w : World) (p : Nat) (S : St) (a v : Int) (h : ProgAt w p S) (hO : Ok S) (hk : S.kd = 3) (ha0 : 0 ≤ a) (ha1 : a < 32768) (hv : byte v) :
    Calls Try.prog 10 #[.pointer (some ⟨p, 0, none⟩), .int .u16 a, .int .u8 v] w (PDone w p (wr S a v)) := by
  have _ := hO
  have _ := hv
  have hd : ProgAt w.drew p S := h
  have hfd : Fr [p] w w.drew := (Fr.refl [p] w).drew
  obtain ⟨d12, d13, d14, d15, -, -⟩ := hd.regs
  have f12 := Blk.frozen hd 12
  have f13 := Blk.frozen hd 13
  have f14 := Blk.frozen hd 14
  have f15 := Blk.frozen hd 15
  have hq : ∃ j, a / 4096 = j ∧ 0 ≤ j ∧ j < 8 := ⟨_, rfl, by omega, by omega⟩
  obtain ⟨j, hq, hj0, hj1⟩ := hq
  have hq' : a.tdiv 4096 = j := by rw [Int.tdiv_eq_ediv_of_nonneg ha0]; exact hq
  have wj : IntKind.u16.wrap j = j := by rw [IntKind.wrap_u16]; omega
  obtain rfl | rfl | rfl | rfl | rfl | rfl | rfl | rfl : j = 0 ∨ j = 1 ∨ j = 2 ∨ j = 3 ∨ j = 4 ∨ j = 5 ∨ j = 6 ∨ j = 7 := by omega
  · have hw : wr S a v = { S with en := v % 16 == 10 } := by unfold wr; rw [if_neg (by omega), if_pos (by omega)]
    have d : w.cell? ⟨p, 1, none⟩ = some (.func (.func 27) #[] #[]) := by
      have := Blk.cell h 1
      rw [hk] at this
      exact this
    have HC : Hid (Calls Try.prog 27 #[.pointer (some ⟨p, 12, none⟩), .int .u8 v] w.drew (Putd w.drew p (12 + 0) (.bool (v % 16 == 10)))) := Lib.hid (enable_any w.drew p v _ d12 f12 hv)
    have HP : Hid (∀ e w', Putd w.drew p (12 + 0) (.bool (v % 16 == 10)) e w' → PDone w p (wr S a v) e w') := Lib.hid fun e w' h => by rw [hw]; exact Putd.done h hd hfd _ rfl rfl
    clear hw h hO hd hfd d12 d13 d14 d15 f12 f13 f14 f15 hk hq
    generalize wr S a v = T at *
    go_enter Try.func10, Try.ntmps10
    go_upto_region 1 with fail
    go_still_tail 12, (by kernel_rfl)
    repeat still_step
    change wpList _ _ _ _ _ w.drew
    go_wp2_with fail
    (with_reducible refine HC.out.mono ?_)
    rintro e w1 hx
    have HD := Lib.hid (HP.out e w1 hx)
    obtain ⟨rfl, -⟩ := hx
    clear HP HC
    go_wp2
    (first | go_end0 | refine bodyPost_ret (results_none rfl _ _ _) rfl ?_)
    exact HD.out
  · have hw : wr S a v = { S with en := v % 16 == 10 } := by unfold wr; rw [if_neg (by omega), if_pos (by omega)]
    have d : w.cell? ⟨p, 2, none⟩ = some (.func (.func 27) #[] #[]) := by
      have := Blk.cell h 2
      rw [hk] at this
      exact this
    have HC : Hid (Calls Try.prog 27 #[.pointer (some ⟨p, 12, none⟩), .int .u8 v] w.drew (Putd w.drew p (12 + 0) (.bool (v % 16 == 10)))) := Lib.hid (enable_any w.drew p v _ d12 f12 hv)
    have HP : Hid (∀ e w', Putd w.drew p (12 + 0) (.bool (v % 16 == 10)) e w' → PDone w p (wr S a v) e w') := Lib.hid fun e w' h => by rw [hw]; exact Putd.done h hd hfd _ rfl rfl
    clear hw h hO hd hfd d12 d13 d14 d15 f12 f13 f14 f15 hk hq
    generalize wr S a v = T at *
    go_enter Try.func10, Try.ntmps10
    go_upto_region 1 with fail
    go_still_tail 12, (by kernel_rfl)
    repeat still_step
    change wpList _ _ _ _ _ w.drew
    go_wp2_with fail
    (with_reducible refine HC.out.mono ?_)
    rintro e w1 hx
    have HD := Lib.hid (HP.out e w1 hx)
    obtain ⟨rfl, -⟩ := hx
    clear HP HC
    go_wp2
    (first | go_end0 | refine bodyPost_ret (results_none rfl _ _ _) rfl ?_)
    exact HD.out
  · have hw : wr S a v = { S with low := least (v % 128) } := by unfold wr; rw [if_neg (by omega), if_neg (by omega), if_pos (by omega), if_neg (by omega), if_pos hk]
    have d : w.cell? ⟨p, 3, none⟩ = some (.func (.func 34) #[] #[]) := by
      have := Blk.cell h 3
      rw [hk] at this
      exact this
    have HC : Hid (Calls Try.prog 34 #[.pointer (some ⟨p, 12, none⟩), .int .u8 v] w.drew (Putd w.drew p (12 + 1) (.int .i64 (least (v % 128))))) := Lib.hid (setLow7_any w.drew p v _ d13 f13 hv)
    have HP : Hid (∀ e w', Putd w.drew p (12 + 1) (.int .i64 (least (v % 128))) e w' → PDone w p (wr S a v) e w') := Lib.hid fun e w' h => by rw [hw]; exact Putd.done h hd hfd _ rfl rfl
    clear hw h hO hd hfd d12 d13 d14 d15 f12 f13 f14 f15 hk hq
    generalize wr S a v = T at *
    go_enter Try.func10, Try.ntmps10
    go_upto_region 1 with fail
    go_still_tail 12, (by kernel_rfl)
    repeat still_step
    change wpList _ _ _ _ _ w.drew
    go_wp2_with fail
    (with_reducible refine HC.out.mono ?_)
    rintro e w1 hx
    have HD := Lib.hid (HP.out e w1 hx)
    obtain ⟨rfl, -⟩ := hx
    clear HP HC
    go_wp2
    (first | go_end0 | refine bodyPost_ret (results_none rfl _ _ _) rfl ?_)
    exact HD.out
  · have hw : wr S a v = { S with low := least (v % 128) } := by unfold wr; rw [if_neg (by omega), if_neg (by omega), if_pos (by omega), if_neg (by omega), if_pos hk]
    have d : w.cell? ⟨p, 4, none⟩ = some (.func (.func 34) #[] #[]) := by
      have := Blk.cell h 4
      rw [hk] at this
      exact this
    have HC : Hid (Calls Try.prog 34 #[.pointer (some ⟨p, 12, none⟩), .int .u8 v] w.drew (Putd w.drew p (12 + 1) (.int .i64 (least (v % 128))))) := Lib.hid (setLow7_any w.drew p v _ d13 f13 hv)
    have HP : Hid (∀ e w', Putd w.drew p (12 + 1) (.int .i64 (least (v % 128))) e w' → PDone w p (wr S a v) e w') := Lib.hid fun e w' h => by rw [hw]; exact Putd.done h hd hfd _ rfl rfl
    clear hw h hO hd hfd d12 d13 d14 d15 f12 f13 f14 f15 hk hq
    generalize wr S a v = T at *
    go_enter Try.func10, Try.ntmps10
    go_upto_region 1 with fail
    go_still_tail 12, (by kernel_rfl)
    repeat still_step
    change wpList _ _ _ _ _ w.drew
    go_wp2_with fail
    (with_reducible refine HC.out.mono ?_)
    rintro e w1 hx
    have HD := Lib.hid (HP.out e w1 hx)
    obtain ⟨rfl, -⟩ := hx
    clear HP HC
    go_wp2
    (first | go_end0 | refine bodyPost_ret (results_none rfl _ _ _) rfl ?_)
    exact HD.out
  · have hw : wr S a v = { S with high := v } := by unfold wr; rw [if_neg (by omega), if_neg (by omega), if_neg (by omega), if_pos (by omega), if_neg (by omega), if_neg (by omega)]
    have d : w.cell? ⟨p, 5, none⟩ = some (.func (.func 35) #[] #[]) := by
      have := Blk.cell h 5
      rw [hk] at this
      exact this
    have HC : Hid (Calls Try.prog 35 #[.pointer (some ⟨p, 12, none⟩), .int .u8 v] w.drew (Putd w.drew p (12 + 2) (.int .i64 v))) := Lib.hid (setHigh8_any w.drew p v _ d14 f14 hv)
    have HP : Hid (∀ e w', Putd w.drew p (12 + 2) (.int .i64 v) e w' → PDone w p (wr S a v) e w') := Lib.hid fun e w' h => by rw [hw]; exact Putd.done h hd hfd _ rfl rfl
    clear hw h hO hd hfd d12 d13 d14 d15 f12 f13 f14 f15 hk hq
    generalize wr S a v = T at *
    go_enter Try.func10, Try.ntmps10
    go_upto_region 1 with fail
    go_still_tail 12, (by kernel_rfl)
    repeat still_step
    change wpList _ _ _ _ _ w.drew
    go_wp2_with fail
    (with_reducible refine HC.out.mono ?_)
    rintro e w1 hx
    have HD := Lib.hid (HP.out e w1 hx)
    obtain ⟨rfl, -⟩ := hx
    clear HP HC
    go_wp2
    (first | go_end0 | refine bodyPost_ret (results_none rfl _ _ _) rfl ?_)
    exact HD.out
  · have hw : wr S a v = { S with high := v } := by unfold wr; rw [if_neg (by omega), if_neg (by omega), if_neg (by omega), if_pos (by omega), if_neg (by omega), if_neg (by omega)]
    have d : w.cell? ⟨p, 6, none⟩ = some (.func (.func 35) #[] #[]) := by
      have := Blk.cell h 6
      rw [hk] at this
      exact this
    have HC : Hid (Calls Try.prog 35 #[.pointer (some ⟨p, 12, none⟩), .int .u8 v] w.drew (Putd w.drew p (12 + 2) (.int .i64 v))) := Lib.hid (setHigh8_any w.drew p v _ d14 f14 hv)
    have HP : Hid (∀ e w', Putd w.drew p (12 + 2) (.int .i64 v) e w' → PDone w p (wr S a v) e w') := Lib.hid fun e w' h => by rw [hw]; exact Putd.done h hd hfd _ rfl rfl
    clear hw h hO hd hfd d12 d13 d14 d15 f12 f13 f14 f15 hk hq
    generalize wr S a v = T at *
    go_enter Try.func10, Try.ntmps10
    go_upto_region 1 with fail
    go_still_tail 12, (by kernel_rfl)
    repeat still_step
    change wpList _ _ _ _ _ w.drew
    go_wp2_with fail
    (with_reducible refine HC.out.mono ?_)
    rintro e w1 hx
    have HD := Lib.hid (HP.out e w1 hx)
    obtain ⟨rfl, -⟩ := hx
    clear HP HC
    go_wp2
    (first | go_end0 | refine bodyPost_ret (results_none rfl _ _ _) rfl ?_)
    exact HD.out
  · have hw : wr S a v = S := by unfold wr; rw [if_neg (by omega), if_neg (by omega), if_neg (by omega), if_neg (by omega), if_neg (by omega)]
    have d : w.cell? ⟨p, 7, none⟩ = some (.func (.func 24) #[] #[]) := by
      have := Blk.cell h 7
      rw [hk] at this
      exact this
    have HC : Hid (Calls Try.prog 24 #[.pointer (some ⟨p, 12, none⟩), .int .u8 v] w.drew (Kept w.drew)) := Lib.hid (ignore_any w.drew p v)
    have HP : Hid (∀ e w', Kept w.drew e w' → PDone w p (wr S a v) e w') := Lib.hid fun e w' h => ⟨h.1, by rw [h.2, hw]; exact hd, by rw [h.2]; exact hfd⟩
    clear hw h hO hd hfd d12 d13 d14 d15 f12 f13 f14 f15 hk hq
    generalize wr S a v = T at *
    go_enter Try.func10, Try.ntmps10
    go_upto_region 1 with fail
    go_still_tail 12, (by kernel_rfl)
    repeat still_step
    change wpList _ _ _ _ _ w.drew
    go_wp2_with fail
    (with_reducible refine HC.out.mono ?_)
    rintro e w1 hx
    have HD := Lib.hid (HP.out e w1 hx)
    obtain ⟨rfl, -⟩ := hx
    clear HP HC
    go_wp2
    (first | go_end0 | refine bodyPost_ret (results_none rfl _ _ _) rfl ?_)
    exact HD.out
  · have hw : wr S a v = S := by unfold wr; rw [if_neg (by omega), if_neg (by omega), if_neg (by omega), if_neg (by omega), if_neg (by omega)]
    have d : w.cell? ⟨p, 8, none⟩ = some (.func (.func 24) #[] #[]) := by
      have := Blk.cell h 8
      rw [hk] at this
      exact this
    have HC : Hid (Calls Try.prog 24 #[.pointer (some ⟨p, 12, none⟩), .int .u8 v] w.drew (Kept w.drew)) := Lib.hid (ignore_any w.drew p v)
    have HP : Hid (∀ e w', Kept w.drew e w' → PDone w p (wr S a v) e w') := Lib.hid fun e w' h => ⟨h.1, by rw [h.2, hw]; exact hd, by rw [h.2]; exact hfd⟩
    clear hw h hO hd hfd d12 d13 d14 d15 f12 f13 f14 f15 hk hq
    generalize wr S a v = T at *
    go_enter Try.func10, Try.ntmps10
    go_upto_region 1 with fail
    go_still_tail 12, (by kernel_rfl)
    repeat still_step
    change wpList _ _ _ _ _ w.drew
    go_wp2_with fail
    (with_reducible refine HC.out.mono ?_)
    rintro e w1 hx
    have HD := Lib.hid (HP.out e w1 hx)
    obtain ⟨rfl, -⟩ := hx
    clear HP HC
    go_wp2
    (first | go_end0 | refine bodyPost_ret (results_none rfl _ _ _) rfl ?_)
    exact HD.out

set_option maxRecDepth 100000 in
set_option maxHeartbeats 4000000 in
theorem write5 (w : World) (p : Nat) (S : St) (a v : Int) (h : ProgAt w p S) (hO : Ok S) (hk : S.kd = 5) (ha0 : 0 ≤ a) (ha1 : a < 32768) (hv : byte v) :
    Calls Try.prog 10 #[.pointer (some ⟨p, 0, none⟩), .int .u16 a, .int .u8 v] w (PDone w p (wr S a v)) := by
  have _ := hO
  have _ := hv
  have hd : ProgAt w.drew p S := h
  have hfd : Fr [p] w w.drew := (Fr.refl [p] w).drew
  obtain ⟨d12, d13, d14, d15, -, -⟩ := hd.regs
  have f12 := Blk.frozen hd 12
  have f13 := Blk.frozen hd 13
  have f14 := Blk.frozen hd 14
  have f15 := Blk.frozen hd 15
  have hq : ∃ j, a / 4096 = j ∧ 0 ≤ j ∧ j < 8 := ⟨_, rfl, by omega, by omega⟩
  obtain ⟨j, hq, hj0, hj1⟩ := hq
  have hq' : a.tdiv 4096 = j := by rw [Int.tdiv_eq_ediv_of_nonneg ha0]; exact hq
  have wj : IntKind.u16.wrap j = j := by rw [IntKind.wrap_u16]; omega
  obtain rfl | rfl | rfl | rfl | rfl | rfl | rfl | rfl : j = 0 ∨ j = 1 ∨ j = 2 ∨ j = 3 ∨ j = 4 ∨ j = 5 ∨ j = 6 ∨ j = 7 := by omega
  · have hw : wr S a v = { S with en := v % 16 == 10 } := by unfold wr; rw [if_neg (by omega), if_pos (by omega)]
    have d : w.cell? ⟨p, 1, none⟩ = some (.func (.func 27) #[] #[]) := by
      have := Blk.cell h 1
      rw [hk] at this
      exact this
    have HC : Hid (Calls Try.prog 27 #[.pointer (some ⟨p, 12, none⟩), .int .u8 v] w.drew (Putd w.drew p (12 + 0) (.bool (v % 16 == 10)))) := Lib.hid (enable_any w.drew p v _ d12 f12 hv)
    have HP : Hid (∀ e w', Putd w.drew p (12 + 0) (.bool (v % 16 == 10)) e w' → PDone w p (wr S a v) e w') := Lib.hid fun e w' h => by rw [hw]; exact Putd.done h hd hfd _ rfl rfl
    clear hw h hO hd hfd d12 d13 d14 d15 f12 f13 f14 f15 hk hq
    generalize wr S a v = T at *
    go_enter Try.func10, Try.ntmps10
    go_upto_region 1 with fail
    go_still_tail 12, (by kernel_rfl)
    repeat still_step
    change wpList _ _ _ _ _ w.drew
    go_wp2_with fail
    (with_reducible refine HC.out.mono ?_)
    rintro e w1 hx
    have HD := Lib.hid (HP.out e w1 hx)
    obtain ⟨rfl, -⟩ := hx
    clear HP HC
    go_wp2
    (first | go_end0 | refine bodyPost_ret (results_none rfl _ _ _) rfl ?_)
    exact HD.out
  · have hw : wr S a v = { S with en := v % 16 == 10 } := by unfold wr; rw [if_neg (by omega), if_pos (by omega)]
    have d : w.cell? ⟨p, 2, none⟩ = some (.func (.func 27) #[] #[]) := by
      have := Blk.cell h 2
      rw [hk] at this
      exact this
    have HC : Hid (Calls Try.prog 27 #[.pointer (some ⟨p, 12, none⟩), .int .u8 v] w.drew (Putd w.drew p (12 + 0) (.bool (v % 16 == 10)))) := Lib.hid (enable_any w.drew p v _ d12 f12 hv)
    have HP : Hid (∀ e w', Putd w.drew p (12 + 0) (.bool (v % 16 == 10)) e w' → PDone w p (wr S a v) e w') := Lib.hid fun e w' h => by rw [hw]; exact Putd.done h hd hfd _ rfl rfl
    clear hw h hO hd hfd d12 d13 d14 d15 f12 f13 f14 f15 hk hq
    generalize wr S a v = T at *
    go_enter Try.func10, Try.ntmps10
    go_upto_region 1 with fail
    go_still_tail 12, (by kernel_rfl)
    repeat still_step
    change wpList _ _ _ _ _ w.drew
    go_wp2_with fail
    (with_reducible refine HC.out.mono ?_)
    rintro e w1 hx
    have HD := Lib.hid (HP.out e w1 hx)
    obtain ⟨rfl, -⟩ := hx
    clear HP HC
    go_wp2
    (first | go_end0 | refine bodyPost_ret (results_none rfl _ _ _) rfl ?_)
    exact HD.out
  · have hw : wr S a v = { S with low := S.low / 256 * 256 + v } := by unfold wr; rw [if_neg (by omega), if_neg (by omega), if_pos (by omega), if_neg (by omega), if_neg (by omega), if_pos (by omega)]
    have d : w.cell? ⟨p, 3, none⟩ = some (.func (.func 38) #[] #[]) := by
      have := Blk.cell h 3
      rw [hk] at this
      exact this
    have HC : Hid (Calls Try.prog 38 #[.pointer (some ⟨p, 12, none⟩), .int .u8 v] w.drew (Putd w.drew p (12 + 1) (.int .i64 (S.low / 256 * 256 + v)))) := Lib.hid (setLowest8_any w.drew p v _ d13 f13 hv hO.low.1 hO.low.2)
    have HP : Hid (∀ e w', Putd w.drew p (12 + 1) (.int .i64 (S.low / 256 * 256 + v)) e w' → PDone w p (wr S a v) e w') := Lib.hid fun e w' h => by rw [hw]; exact Putd.done h hd hfd _ rfl rfl
    clear hw h hO hd hfd d12 d13 d14 d15 f12 f13 f14 f15 hk hq
    generalize wr S a v = T at *
    go_enter Try.func10, Try.ntmps10
    go_upto_region 1 with fail
    go_still_tail 12, (by kernel_rfl)
    repeat still_step
    change wpList _ _ _ _ _ w.drew
    go_wp2_with fail
    (with_reducible refine HC.out.mono ?_)
    rintro e w1 hx
    have HD := Lib.hid (HP.out e w1 hx)
    obtain ⟨rfl, -⟩ := hx
    clear HP HC
    go_wp2
    (first | go_end0 | refine bodyPost_ret (results_none rfl _ _ _) rfl ?_)
    exact HD.out
  · have hw : wr S a v = { S with low := S.low % 256 + v % 2 * 256 } := by unfold wr; rw [if_neg (by omega), if_neg (by omega), if_pos (by omega), if_neg (by omega), if_neg (by omega), if_neg (by omega)]
    have d : w.cell? ⟨p, 4, none⟩ = some (.func (.func 39) #[] #[]) := by
      have := Blk.cell h 4
      rw [hk] at this
      exact this
    have HC : Hid (Calls Try.prog 39 #[.pointer (some ⟨p, 12, none⟩), .int .u8 v] w.drew (Putd w.drew p (12 + 1) (.int .i64 (S.low % 256 + v % 2 * 256)))) := Lib.hid (setNinth_any w.drew p v _ d13 f13 hv hO.low.1 hO.low.2)
    have HP : Hid (∀ e w', Putd w.drew p (12 + 1) (.int .i64 (S.low % 256 + v % 2 * 256)) e w' → PDone w p (wr S a v) e w') := Lib.hid fun e w' h => by rw [hw]; exact Putd.done h hd hfd _ rfl rfl
    clear hw h hO hd hfd d12 d13 d14 d15 f12 f13 f14 f15 hk hq
    generalize wr S a v = T at *
    go_enter Try.func10, Try.ntmps10
    go_upto_region 1 with fail
    go_still_tail 12, (by kernel_rfl)
    repeat still_step
    change wpList _ _ _ _ _ w.drew
    go_wp2_with fail
    (with_reducible refine HC.out.mono ?_)
    rintro e w1 hx
    have HD := Lib.hid (HP.out e w1 hx)
    obtain ⟨rfl, -⟩ := hx
    clear HP HC
    go_wp2
    (first | go_end0 | refine bodyPost_ret (results_none rfl _ _ _) rfl ?_)
    exact HD.out
  · have hw : wr S a v = { S with high := v % 16 } := by unfold wr; rw [if_neg (by omega), if_neg (by omega), if_neg (by omega), if_pos (by omega), if_neg (by omega), if_pos hk]
    have d : w.cell? ⟨p, 5, none⟩ = some (.func (.func 40) #[] #[]) := by
      have := Blk.cell h 5
      rw [hk] at this
      exact this
    have HC : Hid (Calls Try.prog 40 #[.pointer (some ⟨p, 12, none⟩), .int .u8 v] w.drew (Putd w.drew p (12 + 2) (.int .i64 (v % 16)))) := Lib.hid (setHigh4_any w.drew p v _ d14 f14 hv)
    have HP : Hid (∀ e w', Putd w.drew p (12 + 2) (.int .i64 (v % 16)) e w' → PDone w p (wr S a v) e w') := Lib.hid fun e w' h => by rw [hw]; exact Putd.done h hd hfd _ rfl rfl
    clear hw h hO hd hfd d12 d13 d14 d15 f12 f13 f14 f15 hk hq
    generalize wr S a v = T at *
    go_enter Try.func10, Try.ntmps10
    go_upto_region 1 with fail
    go_still_tail 12, (by kernel_rfl)
    repeat still_step
    change wpList _ _ _ _ _ w.drew
    go_wp2_with fail
    (with_reducible refine HC.out.mono ?_)
    rintro e w1 hx
    have HD := Lib.hid (HP.out e w1 hx)
    obtain ⟨rfl, -⟩ := hx
    clear HP HC
    go_wp2
    (first | go_end0 | refine bodyPost_ret (results_none rfl _ _ _) rfl ?_)
    exact HD.out
  · have hw : wr S a v = { S with high := v % 16 } := by unfold wr; rw [if_neg (by omega), if_neg (by omega), if_neg (by omega), if_pos (by omega), if_neg (by omega), if_pos hk]
    have d : w.cell? ⟨p, 6, none⟩ = some (.func (.func 40) #[] #[]) := by
      have := Blk.cell h 6
      rw [hk] at this
      exact this
    have HC : Hid (Calls Try.prog 40 #[.pointer (some ⟨p, 12, none⟩), .int .u8 v] w.drew (Putd w.drew p (12 + 2) (.int .i64 (v % 16)))) := Lib.hid (setHigh4_any w.drew p v _ d14 f14 hv)
    have HP : Hid (∀ e w', Putd w.drew p (12 + 2) (.int .i64 (v % 16)) e w' → PDone w p (wr S a v) e w') := Lib.hid fun e w' h => by rw [hw]; exact Putd.done h hd hfd _ rfl rfl
    clear hw h hO hd hfd d12 d13 d14 d15 f12 f13 f14 f15 hk hq
    generalize wr S a v = T at *
    go_enter Try.func10, Try.ntmps10
    go_upto_region 1 with fail
    go_still_tail 12, (by kernel_rfl)
    repeat still_step
    change wpList _ _ _ _ _ w.drew
    go_wp2_with fail
    (with_reducible refine HC.out.mono ?_)
    rintro e w1 hx
    have HD := Lib.hid (HP.out e w1 hx)
    obtain ⟨rfl, -⟩ := hx
    clear HP HC
    go_wp2
    (first | go_end0 | refine bodyPost_ret (results_none rfl _ _ _) rfl ?_)
    exact HD.out
  · have hw : wr S a v = S := by unfold wr; rw [if_neg (by omega), if_neg (by omega), if_neg (by omega), if_neg (by omega), if_neg (by omega)]
    have d : w.cell? ⟨p, 7, none⟩ = some (.func (.func 24) #[] #[]) := by
      have := Blk.cell h 7
      rw [hk] at this
      exact this
    have HC : Hid (Calls Try.prog 24 #[.pointer (some ⟨p, 12, none⟩), .int .u8 v] w.drew (Kept w.drew)) := Lib.hid (ignore_any w.drew p v)
    have HP : Hid (∀ e w', Kept w.drew e w' → PDone w p (wr S a v) e w') := Lib.hid fun e w' h => ⟨h.1, by rw [h.2, hw]; exact hd, by rw [h.2]; exact hfd⟩
    clear hw h hO hd hfd d12 d13 d14 d15 f12 f13 f14 f15 hk hq
    generalize wr S a v = T at *
    go_enter Try.func10, Try.ntmps10
    go_upto_region 1 with fail
    go_still_tail 12, (by kernel_rfl)
    repeat still_step
    change wpList _ _ _ _ _ w.drew
    go_wp2_with fail
    (with_reducible refine HC.out.mono ?_)
    rintro e w1 hx
    have HD := Lib.hid (HP.out e w1 hx)
    obtain ⟨rfl, -⟩ := hx
    clear HP HC
    go_wp2
    (first | go_end0 | refine bodyPost_ret (results_none rfl _ _ _) rfl ?_)
    exact HD.out
  · have hw : wr S a v = S := by unfold wr; rw [if_neg (by omega), if_neg (by omega), if_neg (by omega), if_neg (by omega), if_neg (by omega)]
    have d : w.cell? ⟨p, 8, none⟩ = some (.func (.func 24) #[] #[]) := by
      have := Blk.cell h 8
      rw [hk] at this
      exact this
    have HC : Hid (Calls Try.prog 24 #[.pointer (some ⟨p, 12, none⟩), .int .u8 v] w.drew (Kept w.drew)) := Lib.hid (ignore_any w.drew p v)
    have HP : Hid (∀ e w', Kept w.drew e w' → PDone w p (wr S a v) e w') := Lib.hid fun e w' h => ⟨h.1, by rw [h.2, hw]; exact hd, by rw [h.2]; exact hfd⟩
    clear hw h hO hd hfd d12 d13 d14 d15 f12 f13 f14 f15 hk hq
    generalize wr S a v = T at *
    go_enter Try.func10, Try.ntmps10
    go_upto_region 1 with fail
    go_still_tail 12, (by kernel_rfl)
    repeat still_step
    change wpList _ _ _ _ _ w.drew
    go_wp2_with fail
    (with_reducible refine HC.out.mono ?_)
    rintro e w1 hx
    have HD := Lib.hid (HP.out e w1 hx)
    obtain ⟨rfl, -⟩ := hx
    clear HP HC
    go_wp2
    (first | go_end0 | refine bodyPost_ret (results_none rfl _ _ _) rfl ?_)
    exact HD.out

set_option maxRecDepth 100000 in
set_option maxHeartbeats 4000000 in
theorem pwrite_any (w : World) (p : Nat) (S : St) (a v : Int) (h : ProgAt w p S) (hO : Ok S) (ha0 : 0 ≤ a) (ha1 : a < 65536) (hv : byte v) :
    Calls Try.prog 10 #[.pointer (some ⟨p, 0, none⟩), .int .u16 a, .int .u8 v] w (PDone w p (wr S a v)) := by
  by_cases hh : 32768 ≤ a
  · have hw : wr S a v = S := by unfold wr; rw [if_pos (.inr hh)]
    rw [hw]
    have HH := Lib.hid h
    clear hw h hO
    go_enter Try.func10, Try.ntmps10
    go_wp2
    (first | go_end0 | refine bodyPost_ret (results_none rfl _ _ _) rfl ?_)
    exact ⟨rfl, HH.out, Fr.refl _ _⟩
  · have hlt : a < 32768 := by omega
    rcases hO.kd with hk | hk | hk | hk
    · exact write0 w p S a v h hO hk ha0 hlt hv
    · exact write1 w p S a v h hO hk ha0 hlt hv
    · exact write3 w p S a v h hO hk ha0 hlt hv
    · exact write5 w p S a v h hO hk ha0 hlt hv

end Gm
end Go.Proofs.Ytglnpgdigdfjiaa
