/-
  What the document's map tells, and New. Condition: the state is one that there is.
-/
import Derived.Test.YtglnpgdigdfjiaaGmRefW
namespace Go.Proofs.Ytglnpgdigdfjiaa
open Go.RowKit
namespace Gm

set_option maxRecDepth 100000 in
set_option maxHeartbeats 4000000 in
theorem rbank_any (w : World) (q : Nat) (S : St) (a : Int) (h : RefAt w q S) (hO : Ok S) (ha0 : 0 ≤ a) (ha1 : a < 65536) :
    Calls Try.prog 19 #[.pointer (some ⟨q, 0, none⟩), .int .u16 a] w fun e w' => e = .returned (.int .i64 (bankOf S a)) ∧ w = w' := by
  by_cases hh : 32768 ≤ a
  · have hw : bankOf S a = -1 := by unfold bankOf; rw [if_pos hh]
    rw [hw]
    clear hw h hO
    go_enter Try.func19, Try.ntmps19
    go_wp2
    go_ret
    exact ⟨rfl, rfl⟩
  · have hlt : a < 32768 := by omega
    have hb := raw_bd S a hO
    have hbk := hO.banks
    have hw : bankOf S a = raw S a % S.banks := by unfold bankOf; rw [if_neg hh]
    rw [hw]
    obtain ⟨R, hR⟩ : ∃ y, raw S a = y := ⟨_, rfl⟩
    obtain ⟨X, hX⟩ : ∃ y, R % S.banks = y := ⟨_, rfl⟩
    have hX' : R.tmod S.banks = X := by rw [Int.tmod_eq_emod_of_nonneg (by omega)]; exact hX
    rw [hR, hX]
    rw [hR] at hb
    clear hw hX hh
    have hkd := hO.kd
    have hmd := hO.mode
    obtain ⟨hl0, hl1⟩ := hO.low
    obtain ⟨hh0, hh1⟩ := hO.high
    clear hO
    have hbl : Blk w q 39 #[.int .i64 S.kd, .int .i64 S.banks, .int .i64 S.size, .bool S.en, .int .i64 S.low, .int .i64 S.high, .int .i64 S.mode] := h
    obtain ⟨d0, d1, d2, d3, d4, d5, d6⟩ := blk7 hbl
    have hz : (S.banks == 0) = false := by rw [beq_eq_false_iff_ne]; omega
    unfold raw at hR
    clear h hbl
    generalize S.kd = kd at *
    generalize S.banks = banks at *
    generalize S.low = low at *
    generalize S.high = high at *
    generalize S.mode = mode at *
    clear d2 d3
    obtain ⟨Y, hY⟩ : ∃ y, 32 * high = y := ⟨_, rfl⟩
    have hY0 : 0 ≤ Y := by omega
    have hY1 : Y < 8192 := by omega
    by_cases h16 : a < 16384
    · rw [if_pos h16] at hR
      obtain rfl | rfl | rfl | rfl := hkd
      · obtain rfl : R = 0 := by rw [← hR, if_neg (by omega)]
        clear hR hl0 hl1 hh0 hh1 hmd hb d4 d5 d6
        go_enter Try.func19, Try.ntmps19
        go_wp2
        go_ret
        exact ⟨rfl, rfl⟩
      · obtain rfl | rfl := hmd
        · obtain rfl : R = 0 := by rw [← hR, if_neg (by omega)]
          clear hR hb
          go_enter Try.func19, Try.ntmps19
          go_wp2
          go_ret
          exact ⟨rfl, rfl⟩
        · obtain rfl : Y = R := by rw [← hR, if_pos ⟨rfl, rfl⟩]; exact hY.symm
          clear hR hb
          go_enter Try.func19, Try.ntmps19
          go_wp2
          go_ret
          exact ⟨rfl, rfl⟩
      · obtain rfl : R = 0 := by rw [← hR, if_neg (by omega)]
        clear hR hl0 hl1 hh0 hh1 hmd hb d4 d5 d6
        go_enter Try.func19, Try.ntmps19
        go_wp2
        go_ret
        exact ⟨rfl, rfl⟩
      · obtain rfl : R = 0 := by rw [← hR, if_neg (by omega)]
        clear hR hl0 hl1 hh0 hh1 hmd hb d4 d5 d6
        go_enter Try.func19, Try.ntmps19
        go_wp2
        go_ret
        exact ⟨rfl, rfl⟩
    · rw [if_neg h16] at hR
      obtain rfl | rfl | rfl | rfl := hkd
      · obtain rfl : R = 1 := by rw [← hR, if_pos rfl]
        clear hR hmd hb
        go_enter Try.func19, Try.ntmps19
        go_wp2
        go_ret
        exact ⟨rfl, rfl⟩
      · rw [if_neg (by omega), if_pos rfl, hY] at hR
        have hR' : low + Y = R := by omega
        clear hR hmd
        go_enter Try.func19, Try.ntmps19
        go_wp2
        go_ret
        exact ⟨rfl, rfl⟩
      · rw [if_neg (by omega), if_neg (by omega)] at hR
        subst hR
        clear hmd
        go_enter Try.func19, Try.ntmps19
        go_wp2
        go_ret
        exact ⟨rfl, rfl⟩
      · rw [if_neg (by omega), if_neg (by omega)] at hR
        subst hR
        clear hmd
        go_enter Try.func19, Try.ntmps19
        go_wp2
        go_ret
        exact ⟨rfl, rfl⟩

set_option maxRecDepth 100000 in
set_option maxHeartbeats 4000000 in
theorem rrom_any (w : World) (q : Nat) (S : St) (a : Int) (h : RefAt w q S) (hO : Ok S) (ha0 : 0 ≤ a) (ha1 : a < 65536) :
    Calls Try.prog 20 #[.pointer (some ⟨q, 0, none⟩), .int .u16 a] w fun e w' => e = .returned (.int .i64 (romOf S a)) ∧ w = w' := by
  have HB := Lib.hid (rbank_any w q S a h hO ha0 ha1)
  have hb := bankOf_bd S a hO
  have hbk := hO.banks
  clear h hO
  unfold romOf
  by_cases hh : 32768 ≤ a
  · rw [if_pos hh]
    clear HB hb
    go_enter Try.func20, Try.ntmps20
    go_wp2
    go_ret
    exact ⟨rfl, rfl⟩
  · rw [if_neg hh]
    obtain ⟨hb0, hb1⟩ := hb (by omega)
    generalize bankOf S a = B at *
    generalize S.banks = banks at *
    obtain ⟨z, hz⟩ : ∃ z, a % 16384 = z := ⟨_, rfl⟩
    have hz' : a.tmod 16384 = z := by rw [Int.tmod_eq_emod_of_nonneg ha0]; exact hz
    have hz0 : 0 ≤ z := by omega
    have hz1 : z < 16384 := by omega
    obtain ⟨Y, hY⟩ : ∃ y, B * 16384 = y := ⟨_, rfl⟩
    obtain ⟨N, hN⟩ : ∃ y, Y + z = y := ⟨_, rfl⟩
    have hY0 : 0 ≤ Y := by omega
    have hY1 : Y < 20000000000 := by omega
    rw [hz, hY, hN]
    clear hz hb
    go_enter Try.func20, Try.ntmps20
    go_wp2_with fail
    (with_reducible refine HB.out.mono ?_)
    rintro e w1 ⟨rfl, rfl⟩
    go_wp2
    go_ret
    exact ⟨rfl, rfl⟩

set_option maxRecDepth 100000 in
set_option maxHeartbeats 4000000 in
theorem rram_any (w : World) (q : Nat) (S : St) (a : Int) (h : RefAt w q S) (hO : Ok S) (ha0 : 0 ≤ a) (ha1 : a < 65536) :
    Calls Try.prog 21 #[.pointer (some ⟨q, 0, none⟩), .int .u16 a] w fun e w' => e = .returned (.int .i64 (ramOf S a)) ∧ w = w' := by
  have hkd := hO.kd
  have hmd := hO.mode
  have hsz := hO.size
  obtain ⟨hh0, hh1⟩ := hO.high
  have hbl : Blk w q 39 #[.int .i64 S.kd, .int .i64 S.banks, .int .i64 S.size, .bool S.en, .int .i64 S.low, .int .i64 S.high, .int .i64 S.mode] := h
  obtain ⟨d0, -, d2, d3, -, d5, d6⟩ := blk7 hbl
  clear h hbl hO
  unfold ramOf rbank
  generalize S.kd = kd at *
  generalize S.high = high at *
  generalize S.mode = mode at *
  generalize S.size = size at *
  generalize S.en = en at *
  by_cases h1 : a < 40960
  · rw [if_pos (.inl h1)]
    clear hkd hmd hsz
    go_enter Try.func21, Try.ntmps21
    go_wp2
    go_ret
    exact ⟨rfl, rfl⟩
  by_cases h2 : 49152 ≤ a
  · rw [if_pos (.inr (.inl h2))]
    clear hkd hmd hsz
    go_enter Try.func21, Try.ntmps21
    go_wp2
    go_ret
    exact ⟨rfl, rfl⟩
  have h2' : a < 49152 := by omega
  cases en
  · rw [if_pos (.inr (.inr (.inl rfl)))]
    clear hkd hmd hsz
    go_enter Try.func21, Try.ntmps21
    go_wp2
    go_ret
    exact ⟨rfl, rfl⟩
  by_cases h3 : size = 0
  · subst h3
    rw [if_pos (.inr (.inr (.inr (.inl rfl))))]
    clear hkd hmd hsz
    go_enter Try.func21, Try.ntmps21
    go_wp2
    go_ret
    exact ⟨rfl, rfl⟩
  have hz : (size == 0) = false := by rw [beq_eq_false_iff_ne]; exact h3
  have t0 : ∀ x : Int, 0 ≤ x → x.tmod size = x % size := fun x hx => Int.tmod_eq_emod_of_nonneg hx
  obtain ⟨A, hA⟩ : ∃ y, a - 40960 = y := ⟨_, rfl⟩
  have hA0 : 0 ≤ A := by omega
  have hA1 : A < 8192 := by omega
  obtain rfl | rfl | rfl | rfl := hkd
  · rw [if_neg (by simp; omega), if_pos (.inl rfl)]
    rw [hA, show (0 : Int) * 8192 + A = A by omega]
    obtain ⟨X, hX⟩ : ∃ y, A % size = y := ⟨_, rfl⟩
    have hX' : A.tmod size = X := by rw [t0 _ hA0]; exact hX
    rw [hX]
    have hy0 : (0 : Int) * 8192 = 0 := rfl
    clear t0 hX hsz
    go_enter Try.func21, Try.ntmps21
    go_wp2
    go_ret
    exact ⟨rfl, rfl⟩
  · obtain rfl | rfl := hmd
    · rw [if_neg (by simp; omega), if_pos (.inr ⟨rfl, rfl⟩)]
      rw [hA, show (0 : Int) * 8192 + A = A by omega]
      obtain ⟨X, hX⟩ : ∃ y, A % size = y := ⟨_, rfl⟩
      have hX' : A.tmod size = X := by rw [t0 _ hA0]; exact hX
      rw [hX]
      have hy0 : (0 : Int) * 8192 = 0 := rfl
      clear t0 hX hsz
      go_enter Try.func21, Try.ntmps21
      go_wp2
      go_ret
      exact ⟨rfl, rfl⟩
    · rw [if_neg (by simp; omega), if_neg (by omega)]
      obtain ⟨Y, hY⟩ : ∃ y, high * 8192 = y := ⟨_, rfl⟩
      obtain ⟨V, hV⟩ : ∃ y, Y + a = y := ⟨_, rfl⟩
      have hN : V - 40960 = Y + A := by omega
      obtain ⟨N, hN2⟩ : ∃ y, Y + A = y := ⟨_, rfl⟩
      rw [hN2] at hN
      have hN0 : 0 ≤ N := by omega
      rw [hA, hY, hN2]
      obtain ⟨X, hX⟩ : ∃ y, N % size = y := ⟨_, rfl⟩
      have hX' : N.tmod size = X := by rw [t0 _ hN0]; exact hX
      rw [hX]
      have hY0 : 0 ≤ Y := by omega
      have hY1 : Y < 3000000 := by omega
      clear t0 hX hsz hA hN2
      go_enter Try.func21, Try.ntmps21
      go_wp2
      go_ret
      exact ⟨rfl, rfl⟩
  · by_cases h4 : 3 < high
    · rw [if_pos (.inr (.inr (.inr (.inr ⟨rfl, h4⟩))))]
      clear hmd hsz t0
      go_enter Try.func21, Try.ntmps21
      go_wp2
      go_ret
      exact ⟨rfl, rfl⟩
    · rw [if_neg (by simp; omega), if_neg (by omega)]
      have h5 : high ≤ 3 := by omega
      obtain ⟨Y, hY⟩ : ∃ y, high * 8192 = y := ⟨_, rfl⟩
      obtain ⟨V, hV⟩ : ∃ y, Y + a = y := ⟨_, rfl⟩
      have hN : V - 40960 = Y + A := by omega
      obtain ⟨N, hN2⟩ : ∃ y, Y + A = y := ⟨_, rfl⟩
      rw [hN2] at hN
      have hN0 : 0 ≤ N := by omega
      rw [hA, hY, hN2]
      obtain ⟨X, hX⟩ : ∃ y, N % size = y := ⟨_, rfl⟩
      have hX' : N.tmod size = X := by rw [t0 _ hN0]; exact hX
      rw [hX]
      have hY0 : 0 ≤ Y := by omega
      have hY1 : Y < 3000000 := by omega
      clear t0 hX hmd hsz hA hN2
      go_enter Try.func21, Try.ntmps21
      go_wp2
      go_ret
      exact ⟨rfl, rfl⟩
  · rw [if_neg (by simp; omega), if_neg (by omega)]
    obtain ⟨Y, hY⟩ : ∃ y, high * 8192 = y := ⟨_, rfl⟩
    obtain ⟨V, hV⟩ : ∃ y, Y + a = y := ⟨_, rfl⟩
    have hN : V - 40960 = Y + A := by omega
    obtain ⟨N, hN2⟩ : ∃ y, Y + A = y := ⟨_, rfl⟩
    rw [hN2] at hN
    have hN0 : 0 ≤ N := by omega
    rw [hA, hY, hN2]
    obtain ⟨X, hX⟩ : ∃ y, N % size = y := ⟨_, rfl⟩
    have hX' : N.tmod size = X := by rw [t0 _ hN0]; exact hX
    rw [hX]
    have hY0 : 0 ≤ Y := by omega
    have hY1 : Y < 3000000 := by omega
    clear t0 hX hmd hsz hA hN2
    go_enter Try.func21, Try.ntmps21
    go_wp2
    go_ret
    exact ⟨rfl, rfl⟩

set_option maxRecDepth 100000 in
set_option maxHeartbeats 4000000 in
theorem rnew_any (w : World) (kd b rom size : Int) (hb : rom = 16384 * b) (hb0 : 0 ≤ b) (hb1 : b < 1000000) :
    Calls Try.prog 18 #[.int .i64 kd, .int .i64 rom, .int .i64 size] w fun e w' => e = .returned (.pointer (some ⟨w.heap.size, 0, none⟩)) ∧ RefAt w' w.heap.size (new kd b size) ∧ Fr [] w w' := by
  have hr0 : 0 ≤ rom := by omega
  have hq : rom.tdiv 16384 = b := by rw [Int.tdiv_eq_ediv_of_nonneg hr0]; omega
  have hbl := Blk.fresh w 39 (refC (new kd b size))
  have hf : Fr [] w (w.alloc (.cells (refC (new kd b size)) 39)) := (Fr.refl [] w).alloc _
  obtain ⟨z, hz⟩ : ∃ z, w.heap.size = z := ⟨_, rfl⟩
  rw [hz] at hbl ⊢
  have HE : Hid (RefAt (w.alloc (.cells #[.int .i64 kd, .int .i64 b, .int .i64 size, .bool (kd == 0), .int .i64 1, .int .i64 0, .int .i64 0] 39)) z (new kd b size) ∧ Fr [] w (w.alloc (.cells #[.int .i64 kd, .int .i64 b, .int .i64 size, .bool (kd == 0), .int .i64 1, .int .i64 0, .int .i64 0] 39))) := Lib.hid ⟨hbl, hf⟩
  clear hbl hf hb
  go_enter Try.func18, Try.ntmps18
  go_wp2
  go_ret
  exact ⟨rfl, HE.out⟩

end Gm
end Go.Proofs.Ytglnpgdigdfjiaa
