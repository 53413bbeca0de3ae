/-
  Contracts of the registers' methods. Condition: what is written is a byte, numbers are as the state has them.
-/
import Derived.Test.YtglnpgdigdfjiaaGmObj
namespace Go.Proofs.Ytglnpgdigdfjiaa
open Go.RowKit
namespace Gm

set_option maxRecDepth 100000 in
set_option maxHeartbeats 4000000 in
theorem lowest1 (w : World) (v : Int) (hv : byte v) : Calls Try.prog 42 #[.int .u8 v, .int .i64 1] w fun e w' => e = .returned (.int .i64 (v % 2)) ∧ w = w' := by
  obtain ⟨h0, h1⟩ := hv
  obtain ⟨r, hr⟩ : ∃ r, v % 2 = r := ⟨_, rfl⟩
  have hr' : v.tmod 2 = r := by rw [Int.tmod_eq_emod_of_nonneg h0]; exact hr
  rw [hr]
  go_enter Try.func42, Try.ntmps42
  go_wp2
  go_ret
  exact ⟨rfl, rfl⟩

set_option maxRecDepth 100000 in
set_option maxHeartbeats 4000000 in
theorem lowest2 (w : World) (v : Int) (hv : byte v) : Calls Try.prog 42 #[.int .u8 v, .int .i64 2] w fun e w' => e = .returned (.int .i64 (v % 4)) ∧ w = w' := by
  obtain ⟨h0, h1⟩ := hv
  obtain ⟨r, hr⟩ : ∃ r, v % 4 = r := ⟨_, rfl⟩
  have hr' : v.tmod 4 = r := by rw [Int.tmod_eq_emod_of_nonneg h0]; exact hr
  rw [hr]
  go_enter Try.func42, Try.ntmps42
  go_wp2
  go_ret
  exact ⟨rfl, rfl⟩

set_option maxRecDepth 100000 in
set_option maxHeartbeats 4000000 in
theorem lowest4 (w : World) (v : Int) (hv : byte v) : Calls Try.prog 42 #[.int .u8 v, .int .i64 4] w fun e w' => e = .returned (.int .i64 (v % 16)) ∧ w = w' := by
  obtain ⟨h0, h1⟩ := hv
  obtain ⟨r, hr⟩ : ∃ r, v % 16 = r := ⟨_, rfl⟩
  have hr' : v.tmod 16 = r := by rw [Int.tmod_eq_emod_of_nonneg h0]; exact hr
  rw [hr]
  go_enter Try.func42, Try.ntmps42
  go_wp2
  go_ret
  exact ⟨rfl, rfl⟩

set_option maxRecDepth 100000 in
set_option maxHeartbeats 4000000 in
theorem lowest5 (w : World) (v : Int) (hv : byte v) : Calls Try.prog 42 #[.int .u8 v, .int .i64 5] w fun e w' => e = .returned (.int .i64 (v % 32)) ∧ w = w' := by
  obtain ⟨h0, h1⟩ := hv
  obtain ⟨r, hr⟩ : ∃ r, v % 32 = r := ⟨_, rfl⟩
  have hr' : v.tmod 32 = r := by rw [Int.tmod_eq_emod_of_nonneg h0]; exact hr
  rw [hr]
  go_enter Try.func42, Try.ntmps42
  go_wp2
  go_ret
  exact ⟨rfl, rfl⟩

set_option maxRecDepth 100000 in
set_option maxHeartbeats 4000000 in
theorem lowest7 (w : World) (v : Int) (hv : byte v) : Calls Try.prog 42 #[.int .u8 v, .int .i64 7] w fun e w' => e = .returned (.int .i64 (v % 128)) ∧ w = w' := by
  obtain ⟨h0, h1⟩ := hv
  obtain ⟨r, hr⟩ : ∃ r, v % 128 = r := ⟨_, rfl⟩
  have hr' : v.tmod 128 = r := by rw [Int.tmod_eq_emod_of_nonneg h0]; exact hr
  rw [hr]
  go_enter Try.func42, Try.ntmps42
  go_wp2
  go_ret
  exact ⟨rfl, rfl⟩

set_option maxRecDepth 100000 in
set_option maxHeartbeats 4000000 in
theorem ignore_any (w : World) (p : Nat) (v : Int) : Calls Try.prog 24 #[.pointer (some ⟨p, 12, none⟩), .int .u8 v] w (Kept w) := by
  go_enter Try.func24, Try.ntmps24
  go_wp2
  (first | go_end0 | refine bodyPost_ret (results_none rfl _ _ _) rfl ?_)
  exact ⟨rfl, rfl⟩

set_option maxRecDepth 100000 in
set_option maxHeartbeats 4000000 in
theorem enable_any (w : World) (p : Nat) (v : Int) (y : Value) (h : w.cell? ⟨p, 12, none⟩ = some y) (hz : w.frozen? ⟨p, 12, none⟩ = false) (hv : byte v) :
    Calls Try.prog 27 #[.pointer (some ⟨p, 12, none⟩), .int .u8 v] w (Putd w p 12 (.bool (v % 16 == 10))) := by
  have HL := Lib.hid (fun W => lowest4 W v hv)
  have hr0 : 0 ≤ v % 16 := by omega
  have hr1 : v % 16 < 16 := by omega
  generalize v % 16 = r at *
  clear hv
  go_enter Try.func27, Try.ntmps27
  go_wp2_with fail
  (with_reducible refine (HL.out _).mono ?_)
  rintro e w1 ⟨rfl, rfl⟩
  go_wp2
  (first | go_end0 | refine bodyPost_ret (results_none rfl _ _ _) rfl ?_)
  exact ⟨rfl, 0, rfl⟩

set_option maxRecDepth 100000 in
set_option maxHeartbeats 4000000 in
theorem setHigh2_any (w : World) (p : Nat) (v : Int) (y : Value) (h : w.cell? ⟨p, 14, none⟩ = some y) (hz : w.frozen? ⟨p, 14, none⟩ = false) (hv : byte v) :
    Calls Try.prog 29 #[.pointer (some ⟨p, 12, none⟩), .int .u8 v] w (Putd w p 14 (.int .i64 (v % 4))) := by
  have HL := Lib.hid (fun W => lowest2 W v hv)
  have hr0 : 0 ≤ v % 4 := by omega
  have hr1 : v % 4 < 4 := by omega
  generalize v % 4 = r at *
  clear hv
  go_enter Try.func29, Try.ntmps29
  go_wp2_with fail
  (with_reducible refine (HL.out _).mono ?_)
  rintro e w1 ⟨rfl, rfl⟩
  go_wp2
  (first | go_end0 | refine bodyPost_ret (results_none rfl _ _ _) rfl ?_)
  exact ⟨rfl, 0, rfl⟩

set_option maxRecDepth 100000 in
set_option maxHeartbeats 4000000 in
theorem setHigh4_any (w : World) (p : Nat) (v : Int) (y : Value) (h : w.cell? ⟨p, 14, none⟩ = some y) (hz : w.frozen? ⟨p, 14, none⟩ = false) (hv : byte v) :
    Calls Try.prog 40 #[.pointer (some ⟨p, 12, none⟩), .int .u8 v] w (Putd w p 14 (.int .i64 (v % 16))) := by
  have HL := Lib.hid (fun W => lowest4 W v hv)
  have hr0 : 0 ≤ v % 16 := by omega
  have hr1 : v % 16 < 16 := by omega
  generalize v % 16 = r at *
  clear hv
  go_enter Try.func40, Try.ntmps40
  go_wp2_with fail
  (with_reducible refine (HL.out _).mono ?_)
  rintro e w1 ⟨rfl, rfl⟩
  go_wp2
  (first | go_end0 | refine bodyPost_ret (results_none rfl _ _ _) rfl ?_)
  exact ⟨rfl, 0, rfl⟩

set_option maxRecDepth 100000 in
set_option maxHeartbeats 4000000 in
theorem setMode_any (w : World) (p : Nat) (v : Int) (y : Value) (h : w.cell? ⟨p, 15, none⟩ = some y) (hz : w.frozen? ⟨p, 15, none⟩ = false) (hv : byte v) :
    Calls Try.prog 30 #[.pointer (some ⟨p, 12, none⟩), .int .u8 v] w (Putd w p 15 (.int .i64 (v % 2))) := by
  have HL := Lib.hid (fun W => lowest1 W v hv)
  have hr0 : 0 ≤ v % 2 := by omega
  have hr1 : v % 2 < 2 := by omega
  generalize v % 2 = r at *
  clear hv
  go_enter Try.func30, Try.ntmps30
  go_wp2_with fail
  (with_reducible refine (HL.out _).mono ?_)
  rintro e w1 ⟨rfl, rfl⟩
  go_wp2
  (first | go_end0 | refine bodyPost_ret (results_none rfl _ _ _) rfl ?_)
  exact ⟨rfl, 0, rfl⟩

set_option maxRecDepth 100000 in
set_option maxHeartbeats 4000000 in
theorem setLow5_any (w : World) (p : Nat) (v : Int) (y : Value) (h : w.cell? ⟨p, 13, none⟩ = some y) (hz : w.frozen? ⟨p, 13, none⟩ = false) (hv : byte v) :
    Calls Try.prog 28 #[.pointer (some ⟨p, 12, none⟩), .int .u8 v] w (Putd w p 13 (.int .i64 (least (v % 32)))) := by
  have HL := Lib.hid (fun W => lowest5 W v hv)
  have hr0 : 0 ≤ v % 32 := by omega
  have hr1 : v % 32 < 32 := by omega
  generalize v % 32 = r at *
  clear hv
  unfold least
  by_cases hr2 : r = 0
  · subst hr2
    rw [if_pos rfl]
    go_enter Try.func28, Try.ntmps28
    go_wp2_with fail
    (with_reducible refine (HL.out _).mono ?_)
    rintro e w1 ⟨rfl, rfl⟩
    go_wp2
    (first | go_end0 | refine bodyPost_ret (results_none rfl _ _ _) rfl ?_)
    exact ⟨rfl, 0, rfl⟩
  · rw [if_neg hr2]
    have hr3 : 1 ≤ r := by omega
    have hr4 : max r 1 = r := by omega
    go_enter Try.func28, Try.ntmps28
    go_wp2_with fail
    (with_reducible refine (HL.out _).mono ?_)
    rintro e w1 ⟨rfl, rfl⟩
    go_wp2
    (first | go_end0 | refine bodyPost_ret (results_none rfl _ _ _) rfl ?_)
    exact ⟨rfl, 0, rfl⟩

set_option maxRecDepth 100000 in
set_option maxHeartbeats 4000000 in
theorem setLow7_any (w : World) (p : Nat) (v : Int) (y : Value) (h : w.cell? ⟨p, 13, none⟩ = some y) (hz : w.frozen? ⟨p, 13, none⟩ = false) (hv : byte v) :
    Calls Try.prog 34 #[.pointer (some ⟨p, 12, none⟩), .int .u8 v] w (Putd w p 13 (.int .i64 (least (v % 128)))) := by
  have HL := Lib.hid (fun W => lowest7 W v hv)
  have hr0 : 0 ≤ v % 128 := by omega
  have hr1 : v % 128 < 128 := by omega
  generalize v % 128 = r at *
  clear hv
  unfold least
  by_cases hr2 : r = 0
  · subst hr2
    rw [if_pos rfl]
    go_enter Try.func34, Try.ntmps34
    go_wp2_with fail
    (with_reducible refine (HL.out _).mono ?_)
    rintro e w1 ⟨rfl, rfl⟩
    go_wp2
    (first | go_end0 | refine bodyPost_ret (results_none rfl _ _ _) rfl ?_)
    exact ⟨rfl, 0, rfl⟩
  · rw [if_neg hr2]
    have hr3 : 1 ≤ r := by omega
    have hr4 : max r 1 = r := by omega
    go_enter Try.func34, Try.ntmps34
    go_wp2_with fail
    (with_reducible refine (HL.out _).mono ?_)
    rintro e w1 ⟨rfl, rfl⟩
    go_wp2
    (first | go_end0 | refine bodyPost_ret (results_none rfl _ _ _) rfl ?_)
    exact ⟨rfl, 0, rfl⟩

set_option maxRecDepth 100000 in
set_option maxHeartbeats 4000000 in
theorem setHigh8_any (w : World) (p : Nat) (v : Int) (y : Value) (h : w.cell? ⟨p, 14, none⟩ = some y) (hz : w.frozen? ⟨p, 14, none⟩ = false) (hv : byte v) :
    Calls Try.prog 35 #[.pointer (some ⟨p, 12, none⟩), .int .u8 v] w (Putd w p 14 (.int .i64 v)) := by
  obtain ⟨h0, h1⟩ := hv
  go_enter Try.func35, Try.ntmps35
  go_wp2
  (first | go_end0 | refine bodyPost_ret (results_none rfl _ _ _) rfl ?_)
  exact ⟨rfl, 0, rfl⟩

theorem of_low (Q : Int → Prop) (h : ∀ n : Fin 512, Q ((n.val : Nat) : Int)) (x : Int) (h0 : 0 ≤ x) (h1 : x < 512) : Q x := by
  have := h ⟨x.toNat, by omega⟩
  simp only at this
  rwa [Int.toNat_of_nonneg h0] at this
set_option maxRecDepth 100000 in
theorem and256 : ∀ x : Int, 0 ≤ x → x < 512 → bits .and .i64 x 256 = x / 256 * 256 := of_low _ (by decide +kernel)
set_option maxRecDepth 100000 in
theorem and255 : ∀ x : Int, 0 ≤ x → x < 512 → bits .and .i64 x 255 = x % 256 := of_low _ (by decide +kernel)
set_option maxRecDepth 100000 in
theorem or0 : ∀ x : Int, 0 ≤ x → x < 512 → bits .or .i64 x 0 = x := of_low _ (by decide +kernel)
set_option maxRecDepth 100000 in
theorem or0' : ∀ x : Int, 0 ≤ x → x < 512 → bits .or .i64 0 x = x := of_low _ (by decide +kernel)
set_option maxRecDepth 100000 in
theorem or256 (x : Int) (h0 : 0 ≤ x) (h1 : x < 256) : bits .or .i64 x 256 = x + 256 := of_low (fun x => x < 256 → bits .or .i64 x 256 = x + 256) (by decide +kernel) x h0 (by omega) h1
set_option maxRecDepth 100000 in
theorem or256' (x : Int) (h0 : 0 ≤ x) (h1 : x < 256) : bits .or .i64 256 x = 256 + x := of_low (fun x => x < 256 → bits .or .i64 256 x = 256 + x) (by decide +kernel) x h0 (by omega) h1

set_option maxRecDepth 100000 in
set_option maxHeartbeats 4000000 in
theorem setLowest8_any (w : World) (p : Nat) (v low : Int) (h : w.cell? ⟨p, 13, none⟩ = some (.int .i64 low)) (hz : w.frozen? ⟨p, 13, none⟩ = false) (hv : byte v) (hl0 : 0 ≤ low) (hl1 : low < 512) :
    Calls Try.prog 38 #[.pointer (some ⟨p, 12, none⟩), .int .u8 v] w (Putd w p 13 (.int .i64 (low / 256 * 256 + v))) := by
  obtain ⟨h0, h1⟩ := hv
  have e1 := and256 low hl0 hl1
  have e2 : bits .or .i64 (low / 256 * 256) v = low / 256 * 256 + v := by
    rcases (by omega : low / 256 = 0 ∨ low / 256 = 1) with hq | hq
    · rw [hq]; have := or0' v h0 (by omega); simp only [Int.zero_mul, Int.zero_add]; exact this
    · rw [hq]; exact or256' v h0 h1
  obtain ⟨N, hN⟩ : ∃ y, low / 256 * 256 + v = y := ⟨_, rfl⟩
  rw [hN] at e2 ⊢
  generalize low / 256 * 256 = X at *
  clear hN
  go_enter Try.func38, Try.ntmps38
  go_wp2
  (first | go_end0 | refine bodyPost_ret (results_none rfl _ _ _) rfl ?_)
  exact ⟨rfl, 0, rfl⟩

set_option maxRecDepth 100000 in
set_option maxHeartbeats 4000000 in
theorem setNinth_any (w : World) (p : Nat) (v low : Int) (h : w.cell? ⟨p, 13, none⟩ = some (.int .i64 low)) (hz : w.frozen? ⟨p, 13, none⟩ = false) (hv : byte v) (hl0 : 0 ≤ low) (hl1 : low < 512) :
    Calls Try.prog 39 #[.pointer (some ⟨p, 12, none⟩), .int .u8 v] w (Putd w p 13 (.int .i64 (low % 256 + v % 2 * 256))) := by
  have HL := Lib.hid (fun W => lowest1 W v hv)
  have e1 := and255 low hl0 hl1
  have hx0 : 0 ≤ low % 256 := by omega
  have hx1 : low % 256 < 256 := by omega
  have hr : v % 2 = 0 ∨ v % 2 = 1 := by omega
  generalize v % 2 = r at *
  generalize low % 256 = X at *
  have e2 := or0 X hx0 (by omega)
  have e3 := or256 X hx0 hx1
  have h' : (w.drewN 1).cell? ⟨p, 13, none⟩ = some (.int .i64 low) := h
  rcases hr with rfl | rfl
  · rw [show X + 0 * 256 = X by omega]
    go_enter Try.func39, Try.ntmps39
    go_still_tail 12, (by kernel_rfl)
    still_call ((HL.out _).mono fun e w' h => ⟨h.1, h.2.symm⟩)
    repeat still_step
    try refine wpStill_nil ?_
    change wpList _ _ _ _ _ w.drew
    have d : w.drew.cell? ⟨p, 13, none⟩ = some (.int .i64 low) := h
    have f : w.drew.frozen? ⟨p, 13, none⟩ = false := hz
    have HE : Hid (Putd w p 13 (.int .i64 X) (.returned (.tuple #[])) (w.drew.setCell ⟨p, 13, none⟩ (.int .i64 X))) := Lib.hid ⟨rfl, 1, rfl⟩
    clear h h' hz
    generalize w.drew = w2 at *
    go_wp2
    (first | go_end0 | refine bodyPost_ret (results_none rfl _ _ _) rfl ?_)
    rw [e2]
    exact HE.out
  · rw [show X + 1 * 256 = X + 256 by omega]
    go_enter Try.func39, Try.ntmps39
    go_still_tail 12, (by kernel_rfl)
    still_call ((HL.out _).mono fun e w' h => ⟨h.1, h.2.symm⟩)
    repeat still_step
    try refine wpStill_nil ?_
    change wpList _ _ _ _ _ w.drew
    have d : w.drew.cell? ⟨p, 13, none⟩ = some (.int .i64 low) := h
    have f : w.drew.frozen? ⟨p, 13, none⟩ = false := hz
    have HE : Hid (Putd w p 13 (.int .i64 (X + 256)) (.returned (.tuple #[])) (w.drew.setCell ⟨p, 13, none⟩ (.int .i64 (X + 256)))) := Lib.hid ⟨rfl, 1, rfl⟩
    clear h h' hz
    generalize w.drew = w2 at *
    go_wp2
    (first | go_end0 | refine bodyPost_ret (results_none rfl _ _ _) rfl ?_)
    rw [e3]
    exact HE.out

set_option maxRecDepth 100000 in
set_option maxHeartbeats 4000000 in
theorem bank0_any (w : World) (p : Nat)  : Calls Try.prog 25 #[.pointer (some ⟨p, 12, none⟩)] w fun e w' => e = .returned (.int .i64 (0)) ∧ w = w' := by
  go_enter Try.func25, Try.ntmps25
  go_wp2
  go_ret
  exact ⟨rfl, rfl⟩

set_option maxRecDepth 100000 in
set_option maxHeartbeats 4000000 in
theorem bank1_any (w : World) (p : Nat)  : Calls Try.prog 26 #[.pointer (some ⟨p, 12, none⟩)] w fun e w' => e = .returned (.int .i64 (1)) ∧ w = w' := by
  go_enter Try.func26, Try.ntmps26
  go_wp2
  go_ret
  exact ⟨rfl, rfl⟩

set_option maxRecDepth 100000 in
set_option maxHeartbeats 4000000 in
theorem lowBank_any (w : World) (p : Nat) (low : Int) (h : w.cell? ⟨p, 13, none⟩ = some (.int .i64 low)) : Calls Try.prog 36 #[.pointer (some ⟨p, 12, none⟩)] w fun e w' => e = .returned (.int .i64 (low)) ∧ w = w' := by
  go_enter Try.func36, Try.ntmps36
  go_wp2
  go_ret
  exact ⟨rfl, rfl⟩

set_option maxRecDepth 100000 in
set_option maxHeartbeats 4000000 in
theorem highBank_any (w : World) (p : Nat) (high : Int) (h : w.cell? ⟨p, 14, none⟩ = some (.int .i64 high)) : Calls Try.prog 41 #[.pointer (some ⟨p, 12, none⟩)] w fun e w' => e = .returned (.int .i64 (high)) ∧ w = w' := by
  go_enter Try.func41, Try.ntmps41
  go_wp2
  go_ret
  exact ⟨rfl, rfl⟩

set_option maxRecDepth 100000 in
set_option maxHeartbeats 4000000 in
theorem highBankIfMode_any (w : World) (p : Nat) (high mode : Int) (h : w.cell? ⟨p, 14, none⟩ = some (.int .i64 high)) (hm : w.cell? ⟨p, 15, none⟩ = some (.int .i64 mode)) (h2 : mode = 0 ∨ mode = 1) : Calls Try.prog 33 #[.pointer (some ⟨p, 12, none⟩)] w fun e w' => e = .returned (.int .i64 (if mode = 1 then high else 0)) ∧ w = w' := by
  rcases h2 with rfl | rfl
  · rw [if_neg (by decide)]
    go_enter Try.func33, Try.ntmps33
    go_wp2
    go_ret
    exact ⟨rfl, rfl⟩
  · rw [if_pos rfl]
    go_enter Try.func33, Try.ntmps33
    go_wp2
    go_ret
    exact ⟨rfl, rfl⟩

set_option maxRecDepth 100000 in
set_option maxHeartbeats 4000000 in
theorem highBankIfFew_any (w : World) (p : Nat) (high : Int) (h : w.cell? ⟨p, 14, none⟩ = some (.int .i64 high)) (hh : byte high) : Calls Try.prog 37 #[.pointer (some ⟨p, 12, none⟩)] w fun e w' => e = .returned (.int .i64 (if 3 < high then -1 else high)) ∧ w = w' := by
  obtain ⟨h0, h1⟩ := hh
  by_cases h4 : 3 < high
  · rw [if_pos h4]
    have h5 : 4 ≤ high := by omega
    go_enter Try.func37, Try.ntmps37
    go_wp2
    go_ret
    exact ⟨rfl, rfl⟩
  · rw [if_neg h4]
    have h5 : high < 4 := by omega
    go_enter Try.func37, Try.ntmps37
    go_wp2
    go_ret
    exact ⟨rfl, rfl⟩

set_option maxRecDepth 100000 in
set_option maxHeartbeats 4000000 in
theorem wideBank_any (w : World) (p : Nat) (high mode : Int) (h : w.cell? ⟨p, 14, none⟩ = some (.int .i64 high)) (hm : w.cell? ⟨p, 15, none⟩ = some (.int .i64 mode)) (h2 : mode = 0 ∨ mode = 1) (hh : byte high) :
    Calls Try.prog 31 #[.pointer (some ⟨p, 12, none⟩)] w fun e w' => e = .returned (.int .i64 (if mode = 1 then 32 * high else 0)) ∧ w = w' := by
  have HL := Lib.hid (highBankIfMode_any w p high mode h hm h2)
  have hr : (if mode = 1 then 32 * high else 0) = 32 * (if mode = 1 then high else 0) := by split <;> omega
  have hb : 0 ≤ (if mode = 1 then high else 0) ∧ (if mode = 1 then high else 0) < 256 := by
    obtain ⟨h0, h1⟩ := hh
    split <;> omega
  rw [hr]
  generalize (if mode = 1 then high else 0) = r at *
  obtain ⟨N, hN⟩ : ∃ y, 32 * r = y := ⟨_, rfl⟩
  obtain ⟨hb0, hb1⟩ := hb
  rw [hN]
  clear hr h2 hh
  have hN0 : 0 ≤ N := by omega
  have hN1 : N < 8192 := by omega
  go_enter Try.func31, Try.ntmps31
  go_wp2_with fail
  (with_reducible refine HL.out.mono ?_)
  rintro e w1 ⟨rfl, rfl⟩
  go_wp2
  go_ret
  exact ⟨rfl, rfl⟩

set_option maxRecDepth 100000 in
set_option maxHeartbeats 4000000 in
theorem wideAndLowBank_any (w : World) (p : Nat) (low high : Int) (hl : w.cell? ⟨p, 13, none⟩ = some (.int .i64 low)) (h : w.cell? ⟨p, 14, none⟩ = some (.int .i64 high)) (hh : byte high) (hl0 : 0 ≤ low) (hl1 : low < 512) : Calls Try.prog 32 #[.pointer (some ⟨p, 12, none⟩)] w fun e w' => e = .returned (.int .i64 (32 * high + low)) ∧ ∃ n, w' = w.drewN n := by
  obtain ⟨h0, h1⟩ := hh
  obtain ⟨X, hX⟩ : ∃ y, 32 * high = y := ⟨_, rfl⟩
  obtain ⟨N, hN⟩ : ∃ y, X + low = y := ⟨_, rfl⟩
  rw [hX, hN]
  have hX0 : 0 ≤ X := by omega
  have hX1 : X < 8192 := by omega
  go_enter Try.func32, Try.ntmps32
  go_upto_region 1 with fail
  go_quiet (fail)
  go_wp2
  go_ret
  exact ⟨rfl, _, rfl⟩

end Gm
end Go.Proofs.Ytglnpgdigdfjiaa
