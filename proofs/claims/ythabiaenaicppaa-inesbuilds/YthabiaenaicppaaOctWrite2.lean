/-
  Contracts of octet's order.appended, (*Writer).number, Big, Little. Conditions: lengths up to 1000000000.
-/
import Derived.Test.YthabiaenaicppaaOctWrite1
import Derived.Test.YthabiaenaicppaaOctNum1
namespace Go.Proofs.Ythabiaenaicppaa
open Go.RowKit

set_option maxHeartbeats 1000000 in
theorem appended33 (w : World) (B : Nat) (v : Value) (l : List UInt8) (u n : Nat) (h : Own w B v l) (hB : B ≤ w.heap.size) (hl : l.length ≤ 1000000000) (hn : n ≤ 8) :
    Calls Try.prog 53 #[ordV 54, v, .int .u64 (u : Int), .int .i64 (n : Int)] w fun e w' => ∃ v', e = .returned v' ∧ Own w' B v' (l ++ putB u n) ∧ Fr v.ownBlock.toList w w' ∧ Lies w v v' := by
  obtain ⟨i0, hi, hz0, hz1, hz2⟩ := info_parts info5
  have HO := Lib.hid h
  clear h
  unfold ordV
  go_enter Try.func53, Try.ntmps53
  go_wp2
  go_loopw [1, 11] (fun x i wr => ∃ k : Nat, k ≤ n ∧ i = .int .i64 k ∧ Own wr B x (l ++ (putB u n).take k) ∧ Fr v.ownBlock.toList w wr ∧ Lies w v x ∧ Blk wr w.heap.size 75 #[.func (.func 54) #[] #[]]) (fun _ i _ => n - (intOf i).toNat)
  case atStart => exact ⟨0, Nat.zero_le _, rfl, by simpa using HO.out.fr ((Fr.refl [] w).alloc _) (by simp), (Fr.refl _ w).alloc _, Lies.refl _ _, Blk.fresh _ _ _⟩
  case round =>
    obtain ⟨k, hk, rfl, ho, hf, ha, hbk⟩ := hrel
    obtain ⟨m, hm⟩ : ∃ m, m = l ++ (putB u n).take k := ⟨_, rfl⟩
    rw [← hm] at ho
    have HO1 := Lib.hid ho
    have HF := Lib.hid hf
    have HA := Lib.hid ha
    have HK := Lib.hid hbk
    have HM := Lib.hid hm
    have hcf := hbk.cell 0
    simp at hcf
    have hml : m.length ≤ 1000000008 := by rw [hm]; simp [putB_length]; omega
    have hBr : B ≤ wr.heap.size := Nat.le_trans hB hf.size
    clear ho hf ha hbk hm
    by_cases hlt : k < n
    · have HG := Lib.hid (putB_get u n k hlt)
      have HE := Lib.hid (byte_at u (n - 1 - k))
      generalize UInt8.ofNat (u / 256 ^ (n - 1 - k) % 256) = x at *
      go_wp2_with (first
        | (go_at_call 54; refine (rank33 k n _ hlt (by omega)).mono ?_; rintro e w1 ⟨rfl, rfl⟩)
        | (at_builtin; refine wpList_app _ rfl (.tmp 14) (.tmp 24) 27 rfl B i0 Try.underlying27 hi hz0 hz1 hz2 u1 m rfl (HO1.out.fr ((Fr.refl [] _).alloc _) (by simp)) _ 1 1 [x] rfl rfl (rd_one' _ _ x HE.out) (by simp) (by omega) (by simp; omega) ?_; intro A' cap' w2 hown' hf2 hat; have HO2 := Lib.hid hown'; have HF2 := Lib.hid hf2; have HA2 := Lib.hid hat; clear hown' hf2 hat))
      go_roundw
      case rel =>
        have h1 := ((Fr.refl _ _).alloc (.cells #[.int .u8 ((u : Int) / 2 ^ (8 * (n - 1 - k)) % 256)] 5)).tr HF2.out
        refine ⟨k + 1, by omega, by go_num, ?_, ?_, ?_, ?_⟩
        · rw [put_snoc l _ k x HG.out, ← HM.out]; exact HO2.out
        · refine HF.out.trans h1 fun i hi => ?_
          rcases HA.out with h | ⟨b, hb, hle⟩
          · exact .inl (by rw [← h]; exact hi)
          · rw [hb] at hi; simp at hi; subst hi; exact .inr hle
        · refine HA.out.trans HA2.out ?_
          have := HF.out.size
          simp; omega
        · refine HK.out.fr h1 ?_
          have := HO1.out.other HK.out (by decide)
          simpa using this
      case measure => simp [intOf]; omega
    · go_wp2
      go_ret
      have e : k = n := by omega
      have HM' := HM.out
      rw [e, List.take_of_length_le (by rw [putB_length]; exact Nat.le_refl n)] at HM'
      exact ⟨_, rfl, by rw [← HM']; exact HO1.out, HF.out, HA.out⟩


end Go.Proofs.Ythabiaenaicppaa
