/-
  Contracts of crc's Next and Sum. Conditions: the length is that of a slice.
-/
import Derived.Test.YtokfcknfkhlmfaaCrcTable
namespace Go.Proofs.Ytokfcknfkhlmfaa.Crc
open Go.RowKit

theorem run_take (r : BitVec 32) (l : List UInt8) (k : Nat) (x : UInt8) (h : l[k]? = some x) : run r (l.take (k + 1)) = upd (run r (l.take k)) x := by
  obtain ⟨hk, e⟩ := List.getElem?_eq_some_iff.1 h
  rw [take_snoc l k hk, run_snoc, e]

theorem nots_u (a : BitVec 32) : bits .xor .u32 IntKind.u32.max (u a) = u (~~~ a) := by
  have h : IntKind.u32.max = u (BitVec.allOnes 32) := by decide
  rw [h, xor_u, BitVec.xor_comm, BitVec.xor_allOnes]

set_option maxHeartbeats 1000000 in
set_option maxRecDepth 100000 in
theorem next_any (w : World) (s : BitVec 32) (A : Option Addr) (n c : Nat) (l : List UInt8) (hn : l.length = n) (hr : Rd w A l) (hm : n ≤ 1000000000) :
    Calls Try.prog 43 #[.int .u32 (u s), .slice A n c] w fun e w' => e = .returned (.int .u32 (u (next s l))) ∧ Fr [] w w' := by
  obtain ⟨hz, hsz⟩ := zero_of_info info35
  clear hsz
  have hzs : (Array.replicate 256 (Value.int .u32 0)).size = 256 := by simp
  generalize (Array.replicate 256 (Value.int .u32 0)) = Z at *
  have HZS := Lib.hid hzs
  have HR := Lib.hid hr
  have HN := Lib.hid hn
  clear hzs hr hn
  go_enter Try.func43, Try.ntmps43
  go_wp2_with fail
  refine (table_any _).mono ?_
  rintro e w1 ⟨rfl, hf1⟩
  have HF1 := Lib.hid hf1
  clear hf1
  have hst := storeRow (Blk.fresh w1 124 Z) (HZS.out.trans tabA_size.symm) tabA_one
  rw [World.setRow_alloc_new] at hst
  have hts := tabA_size
  have HB : Hid (Blk (w1.alloc (.cells tabA 124)) w1.heap.size 124 tabA) := Blk.fresh w1 124 tabA
  have HF2 : Hid (Fr [] w (w1.alloc (.cells tabA 124))) := HF1.out.alloc _
  have H0 := Lib.hid (nots_u s)
  go_wp2
  clear hst hts hz
  generalize w1.alloc (.cells tabA 124) = w2 at *
  generalize w1.heap.size = g at *
  rw [H0.out]
  go_loop [6, 8, 14] (fun v _ i => ∃ k : Nat, k ≤ n ∧ i = .int .i64 k ∧ v = .int .u32 (u (run (~~~ s) (l.take k)))) (fun _ _ i => n - (intOf i).toNat)
  case atStart => exact ⟨0, Nat.zero_le _, rfl, rfl⟩
  case round =>
    obtain ⟨k, hk, rfl, rfl⟩ := hrel
    by_cases hlt : k < n
    · obtain ⟨b, o, x, rfl, hx, hc⟩ := (HR.out.fr HF2.out (by simp)).at k (by rw [HN.out]; omega)
      have HX := Lib.hid (run_take (~~~ s) l k x hx)
      clear hx
      generalize run (~~~ s) (l.take k) = r at *
      have hi := index_u r x
      have hil := index_lt r x
      have HT := Lib.hid (table_u r x)
      generalize (r.toNat % 256) ^^^ x.toNat = m at *
      have ht := HB.out.cell m
      rw [tabA_get m hil] at ht
      go_wp2
      exact ⟨⟨k + 1, by omega, by go_num, by rw [HX.out, HT.out]⟩, by simp [intOf]; omega⟩
    · obtain rfl : k = n := by omega
      have H1 := Lib.hid (nots_u (run (~~~ s) (l.take k)))
      have HL : Hid (l.take k = l) := List.take_of_length_le (by rw [HN.out]; omega)
      go_wp2
      go_ret
      exact ⟨by rw [H1.out, HL.out]; rfl, HF2.out⟩

theorem zero_u : (0 : Int) = u 0#32 := by decide

set_option maxHeartbeats 400000 in
theorem sum_any (w : World) (A : Option Addr) (n c : Nat) (l : List UInt8) (hn : l.length = n) (hr : Rd w A l) (hm : n ≤ 1000000000) :
    Calls Try.prog 27 #[.slice A n c] w fun e w' => e = .returned (.int .u32 (u (next 0#32 l))) ∧ Fr [] w w' := by
  have HR := Lib.hid hr
  have HN := Lib.hid hn
  clear hr hn
  go_enter Try.func27, Try.ntmps27
  go_wp2_with fail
  rw [show Value.int .u32 (0 : Int) = Value.int .u32 (u 0#32) from congrArg _ zero_u]
  refine (next_any w 0#32 A n c l HN.out HR.out hm).mono ?_
  rintro e w1 ⟨rfl, hf⟩
  have HF := Lib.hid hf
  clear hf
  go_wp2
  go_ret
  exact ⟨rfl, HF.out⟩

end Go.Proofs.Ytokfcknfkhlmfaa.Crc
