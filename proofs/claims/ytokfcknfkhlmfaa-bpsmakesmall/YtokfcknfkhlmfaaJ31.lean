/-
  Contract of the document's Back of layer 3.
  Contracts of the document's Next and Sum (picklockref02).
-/
import Derived.Test.YtokfcknfkhlmfaaJ09
import Derived.Test.YtokfcknfkhlmfaaJ23
import Derived.Laws.Closers25b
namespace Go.Proofs.Ytokfcknfkhlmfaa
open Go.RowKit
namespace Var

set_option maxHeartbeats 400000 in
theorem refBack_any (w : World) (u : Int) (h0 : 0 ≤ u) (h1 : u < 18446744073709551616) :
    Calls Try.prog 25 #[.int .u64 u] w fun e w' => e = .returned (.int .i64 (backV u)) ∧ w = w' := by
  by_cases hn : u % 2 = 1
  · have e : backV u = -(u / 2) := by rw [backV, if_pos hn]
    rw [e]
    clear e
    go_enter Try.func25, Try.ntmps25
    go_wp2
    go_ret
    exact ⟨rfl, rfl⟩
  · have e : backV u = u / 2 := by rw [backV, if_neg hn]
    rw [e]
    clear e
    go_enter Try.func25, Try.ntmps25
    go_wp2
    go_ret
    exact ⟨rfl, rfl⟩

end Var
end Go.Proofs.Ytokfcknfkhlmfaa

namespace Go.Proofs.Ytokfcknfkhlmfaa.Crc
open Go.RowKit

theorem tdiv_u (a : BitVec 32) : (u a).tdiv 2 % 4294967296 = u a / (2 : Int) := by
  have h := u_bounds a
  rw [Int.tdiv_eq_ediv_of_nonneg h.1]
  omega
theorem bits_pos (a b : Int) : 0 ≤ bits .xor .u32 a b := bits_lo_u32 .xor a b
theorem tbit (r : BitVec 32) (x : UInt8) (k : Nat) : ((bits .xor .u32 (u (bitwise r x k)) ((x.toNat : Int) / 2 ^ k)).tmod 2 == 1) = outBit r x k := by
  rw [Int.tmod_eq_emod_of_nonneg (bits_pos _ _), bit_u]
  cases outBit r x k <;> rfl
theorem tOut1 (r : BitVec 32) (x : UInt8) (k : Nat) (h : outBit r x k = true) : bits .xor .u32 ((u (bitwise r x k)).tdiv 2 % 4294967296) 3988292384 = u (bitwise r x (k + 1)) := by
  rw [tdiv_u]; exact bitOut1 r x k h
theorem tOut0 (r : BitVec 32) (x : UInt8) (k : Nat) (h : outBit r x k = false) : (u (bitwise r x k)).tdiv 2 % 4294967296 = u (bitwise r x (k + 1)) := by
  rw [tdiv_u]; exact bitOut0 r x k h

set_option maxHeartbeats 1000000 in
theorem rnext_any (w : World) (s : BitVec 32) (A : Option Addr) (n c : Nat) (l : List UInt8) (hn : l.length = n) (hr : Rd w A l) (hm : n ≤ 1000000000) :
    Calls Try.prog 30 #[.int .u32 (u s), .slice A n c] w fun e w' => e = .returned (.int .u32 (u (next s l))) ∧ w = w' := by
  have HR := Lib.hid hr
  have HN := Lib.hid hn
  clear hr hn
  have H0 := Lib.hid (not_u s)
  go_enter Try.func30, Try.ntmps30
  go_wp2
  rw [H0.out]
  go_loop [5, 6, 7, 8] (fun v i _ _ => ∃ k : Nat, k ≤ n ∧ i = .int .i64 k ∧ v = .int .u32 (u (run (~~~ s) (l.take k)))) (fun _ i _ _ => n - (intOf i).toNat)
  case atStart => exact ⟨0, Nat.zero_le _, rfl, rfl⟩
  case round =>
    obtain ⟨k, hk, rfl, rfl⟩ := hrel
    by_cases hlt : k < n
    · obtain ⟨b, o, x, rfl, hx, hc⟩ := HR.out.at k (by rw [HN.out]; omega)
      have HX := Lib.hid (run_take (~~~ s) l k x hx)
      clear hx
      generalize run (~~~ s) (l.take k) = r at *
      have hx8 := x.toNat_lt
      go_wp2
      go_loop [5, 7, 8] (fun v i _ => ∃ j : Nat, j ≤ 8 ∧ i = .int .i64 j ∧ v = .int .u32 (u (bitwise r x j))) (fun _ i _ => 8 - (intOf i).toNat)
      case atStart => exact ⟨0, Nat.zero_le _, rfl, by rw [bitwise_zero]⟩
      case round =>
        obtain ⟨j, hj, rfl, rfl⟩ := hrel
        by_cases hlt8 : j < 8
        · have hbit := tbit r x j
          cases ho : outBit r x j with
          | true =>
            rw [ho] at hbit
            have HS := Lib.hid (tOut1 r x j ho)
            clear ho
            go_wp2
            exact ⟨⟨j + 1, by omega, by go_num, by rw [HS.out]⟩, by simp [intOf]; omega⟩
          | false =>
            rw [ho] at hbit
            have HS := Lib.hid (tOut0 r x j ho)
            clear ho
            go_wp2
            exact ⟨⟨j + 1, by omega, by go_num, by rw [HS.out]⟩, by simp [intOf]; omega⟩
        · obtain rfl : j = 8 := by omega
          go_wp2
          exact ⟨⟨k + 1, by omega, by go_num, by rw [HX.out, bitwise_eight]⟩, by simp [intOf]; omega⟩
    · obtain rfl : k = n := by omega
      have H1 := Lib.hid (not_u (run (~~~ s) (l.take k)))
      have HL : Hid (l.take k = l) := List.take_of_length_le (by rw [HN.out]; omega)
      go_wp2
      go_ret
      exact ⟨by rw [H1.out, HL.out]; rfl, rfl⟩

set_option maxHeartbeats 400000 in
theorem rsum_any (w : World) (A : Option Addr) (n c : Nat) (l : List UInt8) (hn : l.length = n) (hr : Rd w A l) (hm : n ≤ 1000000000) :
    Calls Try.prog 13 #[.slice A n c] w fun e w' => e = .returned (.int .u32 (u (next 0#32 l))) ∧ w = w' := by
  have HR := Lib.hid hr
  have HN := Lib.hid hn
  clear hr hn
  go_enter Try.func13, Try.ntmps13
  go_wp2_with fail
  rw [show Value.int .u32 (0 : Int) = Value.int .u32 (u 0#32) from congrArg _ zero_u]
  refine (rnext_any w 0#32 A n c l HN.out HR.out hm).mono ?_
  rintro e w1 ⟨rfl, rfl⟩
  go_wp2
  go_ret
  exact ⟨rfl, rfl⟩

end Go.Proofs.Ytokfcknfkhlmfaa.Crc
