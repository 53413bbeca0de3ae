/-
  Contracts of what ines reads of a file's head: mapper, mirror, prgStart, prgBytes, chrBytes, chrEnd, isKnown. Condition: the head is there.
-/
import Derived.Test.YthabiaenaicppaaIneMath
import Derived.Test.YthabiaenaicppaaOctRead2
namespace Go.Proofs.Ythabiaenaicppaa
open Go.RowKit
namespace Ine

theorem head_cells {w : World} {A : Option Addr} {l : List UInt8} (h : Rd w A l) (h16 : 16 ≤ l.length) : ∃ b o, A = some ⟨b, o, none⟩ ∧ ∀ i, i < 16 → w.cell? ⟨b, o + i, none⟩ = some (.int .u8 (bt l i : Int)) := by
  obtain ⟨b, o, rfl, hc⟩ := h (by omega)
  refine ⟨b, o, rfl, fun i hi => ?_⟩
  rw [hc i (by omega), bt_get l i (by omega)]

set_option maxHeartbeats 400000 in
theorem isKnown_any (w : World) (m : Int) : Calls Try.prog 49 #[.int .i64 m] w fun e w' => e = .returned (.bool (decide (0 ≤ m ∧ m ≤ 4))) ∧ w = w' := by
  by_cases h0 : 0 ≤ m
  · by_cases h4 : m ≤ 4
    · have hd : decide (0 ≤ m ∧ m ≤ 4) = true := by simp [h0, h4]
      rw [hd]
      clear hd
      go_enter Try.func49, Try.ntmps49
      go_wp2
      go_ret
      exact ⟨rfl, rfl⟩
    · have hd : decide (0 ≤ m ∧ m ≤ 4) = false := by simp [h4]
      rw [hd]
      clear hd
      go_enter Try.func49, Try.ntmps49
      go_wp2
      go_ret
      exact ⟨rfl, rfl⟩
  · have hd : decide (0 ≤ m ∧ m ≤ 4) = false := by simp [h0]
    rw [hd]
    clear hd
    go_enter Try.func49, Try.ntmps49
    go_wp2
    go_ret
    exact ⟨rfl, rfl⟩

section
variable (w : World) (A : Option Addr) (n c : Nat) (l : List UInt8)

set_option maxHeartbeats 400000 in
theorem mapper_any (hn : l.length = n) (h16 : 16 ≤ n) (hr : Rd w A l) : Calls Try.prog 33 #[.slice A n c] w fun e w' => e = .returned (.int .i64 (mapper l : Int)) ∧ ∃ k, w' = w.drewN k := by
  obtain ⟨b, o, rfl, hc⟩ := head_cells hr (by omega)
  have c6 := hc 6 (by omega)
  have c7 := hc 7 (by omega)
  have e1 := smap l
  have HB := Lib.hid (show mapper l < 256 by have := bt_lt l 6; have := bt_lt l 7; unfold mapper; omega)
  have t6 : (6 : Int) < n := by omega
  have t7 : (7 : Int) < n := by omega
  generalize bt l 6 = x6 at *
  generalize bt l 7 = x7 at *
  generalize mapper l = m at *
  have e2 : IntKind.i64.wrap (m : Int) = m := by have := HB.out; rw [IntKind.wrap_i64]; omega
  clear hr hc
  go_enter Try.func33, Try.ntmps33
  go_wp2
  go_quiet (fail)
  go_wp2
  go_ret
  exact ⟨rfl, _, rfl⟩

set_option maxHeartbeats 400000 in
theorem mirror_any (hn : l.length = n) (h16 : 16 ≤ n) (hr : Rd w A l) : Calls Try.prog 34 #[.slice A n c] w fun e w' => e = .returned (.int .i64 ((bt l 6 % 2 : Nat) : Int)) ∧ w = w' := by
  obtain ⟨b, o, rfl, hc⟩ := head_cells hr (by omega)
  have c6 := hc 6 (by omega)
  have e1 := s1 l 6
  have t6 : (6 : Int) < n := by omega
  generalize bt l 6 = x6 at *
  clear hr hc
  by_cases h1 : x6 % 2 = 1
  · have e2 : ¬ bits .and .u8 (x6 : Int) 1 = 0 := by rw [e1]; simpa using h1
    rw [h1]
    clear e1 h1
    go_enter Try.func34, Try.ntmps34
    go_wp2
    go_ret
    exact ⟨rfl, rfl⟩
  · have e2 : bits .and .u8 (x6 : Int) 1 = 0 := by rw [e1]; exact h1
    rw [show x6 % 2 = 0 by omega]
    clear e1 h1
    go_enter Try.func34, Try.ntmps34
    go_wp2
    go_ret
    exact ⟨rfl, rfl⟩

set_option maxHeartbeats 400000 in
theorem prgStart_any (hn : l.length = n) (h16 : 16 ≤ n) (hr : Rd w A l) : Calls Try.prog 37 #[.slice A n c] w fun e w' => e = .returned (.int .i64 (start l : Int)) ∧ w = w' := by
  obtain ⟨b, o, rfl, hc⟩ := head_cells hr (by omega)
  have c6 := hc 6 (by omega)
  have e1 := s4 l 6
  have t6 : (6 : Int) < n := by omega
  unfold start
  generalize bt l 6 = x6 at *
  clear hr hc
  by_cases h1 : x6 / 4 % 2 = 1
  · have e2 : ¬ bits .and .u8 (x6 : Int) 4 = 0 := by rw [e1]; simpa using h1
    rw [if_pos h1]
    clear e1 h1
    go_enter Try.func37, Try.ntmps37
    go_wp2
    go_ret
    exact ⟨rfl, rfl⟩
  · have e2 : bits .and .u8 (x6 : Int) 4 = 0 := by rw [e1]; exact h1
    rw [if_neg h1]
    clear e1 h1
    go_enter Try.func37, Try.ntmps37
    go_wp2
    go_ret
    exact ⟨rfl, rfl⟩

set_option maxHeartbeats 400000 in
theorem prgBytes_any (hn : l.length = n) (h16 : 16 ≤ n) (hr : Rd w A l) : Calls Try.prog 40 #[.slice A n c] w fun e w' => e = .returned (.int .i64 (prgB l : Int)) ∧ w = w' := by
  obtain ⟨b, o, rfl, hc⟩ := head_cells hr (by omega)
  have c4 := hc 4 (by omega)
  have t4 : (4 : Int) < n := by omega
  have hb := bt_lt l 4
  unfold prgB
  generalize bt l 4 = x4 at *
  have e2 : IntKind.i64.wrap (x4 : Int) = x4 := by rw [IntKind.wrap_i64]; omega
  have e3 : IntKind.i64.wrap ((x4 : Int) * 16384) = (x4 : Int) * 16384 := by rw [IntKind.wrap_i64]; omega
  have e4 : ((x4 * 16384 : Nat) : Int) = (x4 : Int) * 16384 := by omega
  rw [e4]
  clear hr hc e4
  go_enter Try.func40, Try.ntmps40
  go_wp2
  go_ret
  exact ⟨rfl, rfl⟩

set_option maxHeartbeats 400000 in
theorem chrBytes_any (hn : l.length = n) (h16 : 16 ≤ n) (hr : Rd w A l) : Calls Try.prog 35 #[.slice A n c] w fun e w' => e = .returned (.int .i64 (chrB l : Int)) ∧ w = w' := by
  obtain ⟨b, o, rfl, hc⟩ := head_cells hr (by omega)
  have c5 := hc 5 (by omega)
  have t5 : (5 : Int) < n := by omega
  have hb := bt_lt l 5
  unfold chrB
  generalize bt l 5 = x5 at *
  have e2 : IntKind.i64.wrap (x5 : Int) = x5 := by rw [IntKind.wrap_i64]; omega
  have e3 : IntKind.i64.wrap ((x5 : Int) * 8192) = (x5 : Int) * 8192 := by rw [IntKind.wrap_i64]; omega
  have e4 : ((x5 * 8192 : Nat) : Int) = (x5 : Int) * 8192 := by omega
  rw [e4]
  clear hr hc e4
  go_enter Try.func35, Try.ntmps35
  go_wp2
  go_ret
  exact ⟨rfl, rfl⟩

set_option maxHeartbeats 400000 in
theorem chrEnd_any (hn : l.length = n) (h16 : 16 ≤ n) (hr : Rd w A l) : Calls Try.prog 38 #[.slice A n c] w fun e w' => e = .returned (.int .i64 (endAt l : Int)) ∧ w = w' := by
  have K1 := Lib.hid (prgStart_any w A n c l hn h16 hr)
  have K2 := Lib.hid (prgBytes_any w A n c l hn h16 hr)
  have K3 := Lib.hid (chrBytes_any w A n c l hn h16 hr)
  have b1 := start_ge l
  have b2 := prgB_le l
  have b3 := chrB_le l
  unfold endAt
  generalize start l = s at *
  generalize prgB l = p at *
  generalize chrB l = q at *
  have e1 : ((s + p + q : Nat) : Int) = (s : Int) + p + q := by omega
  rw [e1]
  clear hr e1
  go_enter Try.func38, Try.ntmps38
  go_wp2_with (first
    | (go_at_call 37; (with_reducible refine K1.out.mono ?_); rintro e w1 ⟨rfl, rfl⟩)
    | (go_at_call 40; (with_reducible refine K2.out.mono ?_); rintro e w1 ⟨rfl, rfl⟩)
    | (go_at_call 35; (with_reducible refine K3.out.mono ?_); rintro e w1 ⟨rfl, rfl⟩))
  go_ret
  exact ⟨rfl, rfl⟩
end

end Ine
end Go.Proofs.Ythabiaenaicppaa
