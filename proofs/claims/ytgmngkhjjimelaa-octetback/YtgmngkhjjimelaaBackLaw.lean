/-
  picklocklaw01.OctetBack returns true for every input: numbers that were written are read, either way round. No condition.
-/
import Derived.Test.YtgmngkhjjimelaaOwnLaw
import Derived.Laws.Bits128
namespace Go.Proofs.Ytgmngkhjjimelaa
open Go.RowKit

theorem and65535 (n : Int) : 0 ≤ bits .and .i64 n 65535 ∧ bits .and .i64 n 65535 ≤ 65535 := by
  have h : (BitVec.ofInt 64 65535).toNat = 2 ^ 16 - 1 := by decide
  have key : (BitVec.ofInt 64 n &&& BitVec.ofInt 64 65535).toNat = (n % ((2 ^ 64 : Nat) : Int)).toNat % 2 ^ 16 := by
    rw [BitVec.toNat_and, BitVec.toNat_ofInt, h, Nat.and_two_pow_sub_one_eq_mod]
  have e : bits .and .i64 n 65535 = IntKind.i64.wrap ((BitVec.ofInt 64 n &&& BitVec.ofInt 64 65535).toNat : Nat) := rfl
  rw [e, key, IntKind.wrap_i64]
  omega

theorem nine (a : Int) : ∃ n : Nat, n ≤ 8 ∧ (bits .and .i64 a 65535).tmod 9 = (n : Int) := by
  obtain ⟨h0, h1⟩ := and65535 a
  rw [Int.tmod_eq_emod_of_nonneg h0]
  exact ⟨((bits .and .i64 a 65535) % 9).toNat, by omega, by omega⟩

theorem cnt_nat (n : Nat) (h : n ≤ 8) : cnt (n : Int) = n := by unfold cnt; omega

/-- The bytes of the first k numbers, each both ways round. -/
def wrt (l : List Int) (n k : Nat) : List UInt8 := (l.take k).flatMap fun z => putB z.toNat n ++ putL z.toNat n
theorem wrt_zero (l : List Int) (n : Nat) : wrt l n 0 = [] := by simp [wrt]
theorem wrt_succ (l : List Int) (n k : Nat) (h : k < l.length) : wrt l n (k + 1) = (wrt l n k ++ putB l[k].toNat n) ++ putL l[k].toNat n := by
  unfold wrt
  rw [List.take_succ_eq_append_getElem h, List.flatMap_append]
  simp
theorem wrt_length (l : List Int) (n k : Nat) (h : k ≤ l.length) : (wrt l n k).length = 2 * n * k := by
  induction k with
  | zero => simp [wrt_zero]
  | succ k ih =>
    rw [wrt_succ l n k (by omega), List.length_append, List.length_append, ih (by omega), putB_length, putL_length, Nat.mul_add]
    omega

theorem wrt_split (l : List Int) (n k j : Nat) (hj : j < k) (hk : k ≤ l.length) : ∃ X, wrt l n k = wrt l n j ++ (putB (l[j]'(by omega)).toNat n ++ (putL (l[j]'(by omega)).toNat n ++ X)) := by
  have h : l.take k = l.take (j + 1) ++ (l.take k).drop (j + 1) := by
    rw [show l.take (j + 1) = (l.take k).take (j + 1) from by rw [List.take_take, Nat.min_eq_left (by omega)], List.take_append_drop]
  refine ⟨((l.take k).drop (j + 1)).flatMap fun z => putB z.toNat n ++ putL z.toNat n, ?_⟩
  have h1 : wrt l n k = wrt l n (j + 1) ++ ((l.take k).drop (j + 1)).flatMap fun z => putB z.toNat n ++ putL z.toNat n := by
    unfold wrt
    rw [← List.flatMap_append, ← h]
  rw [h1, wrt_succ l n j (by omega)]
  simp only [List.append_assoc]

theorem back_read (P X1 X2 X3 : List UInt8) (p n : Nat) (hP : P.length = p) (h1 : X1.length = n) (h2 : X2.length = n) (hn : n ≤ 8) :
    eN (P ++ (X1 ++ (X2 ++ X3))) p n = 0 ∧ oB 0 (P ++ (X1 ++ (X2 ++ X3))) p n = X1 ∧ kB 0 p n = p + n ∧ eN (P ++ (X1 ++ (X2 ++ X3))) (p + n) n = 0 ∧ oB 0 (P ++ (X1 ++ (X2 ++ X3))) (p + n) n = X2 ∧ kB 0 (p + n) n = p + n + n := by
  subst hP h1
  refine ⟨?_, ?_, by simp [kB], ?_, ?_, by simp [kB]⟩
  · unfold eN
    rw [if_neg (by omega), if_neg (by simp; omega)]
  · unfold oB
    rw [if_pos rfl, List.drop_left, Int.toNat_natCast, List.take_left]
  · unfold eN
    rw [if_neg (by omega), if_neg (by simp; omega)]
  · unfold oB
    rw [if_pos rfl, ← List.append_assoc, show P.length + X1.length = (P ++ X1).length from by simp, List.drop_left, Int.toNat_natCast, ← h2, List.take_left]

/-- '1 << (8 n)' as a number. -/
theorem shl_one (n : Nat) (h : n < 8) : ∃ P : Nat, IntKind.u64.wrap (2 ^ (8 * n)) = (P : Int) ∧ P = 256 ^ n ∧ 0 < P := by
  refine ⟨256 ^ n, ?_, rfl, Nat.pow_pos (by omega)⟩
  rw [pow256]
  have h1 : 2 ^ (8 * n) ≤ 2 ^ 56 := pow_mono (by omega)
  have h2 : (2 : Nat) ^ 56 < 18446744073709551616 := by decide
  rw [IntKind.wrap_u64, show (2 : Int) ^ (8 * n) = ((2 ^ (8 * n) : Nat) : Int) from by simp]
  generalize 2 ^ (8 * n) = m at *
  omega

set_option maxRecDepth 100000 in
set_option maxHeartbeats 2000000 in
theorem back_walk (a0 : Option Addr) (cap0 : Nat) (l : List Int) (a1 : Int) (w : World) (hr : RdI .u64 w a0 l) (hwf : ∀ z ∈ l, 0 ≤ z ∧ z < 18446744073709551616) (_hlc : l.length ≤ cap0) (_hcm : cap0 ≤ maxLen) :
    Calls Try.prog 5 #[.slice a0 l.length cap0, .int .i64 a1] w fun e w' => e = .returned (.bool true) ∧ Below w.heap.size w w' := by
  have HR := Lib.hid hr
  have HWF := Lib.hid hwf
  unfold maxLen at _hcm
  clear hr hwf
  obtain ⟨n, hn8, hn⟩ := nine a1
  have HN := Lib.hid hn
  clear hn
  go_enter Try.func5, Try.ntmps5
  go_wp2_with (go_at_call 8; refine (shown_any _).mono ?_; rintro e w1 ⟨rfl, hf1⟩; have HF1 := Lib.hid hf1; have hs1 := hf1.size; clear hf1)
  rw [HN.out]
  go_loopw [7] (fun i wr => ∃ k : Nat, (k ≤ l.length ∧ k ≤ 30) ∧ i = .int .i64 k ∧ WrX w1 w1.heap.size w1.heap.size (wrt l n k) wr) (fun i _ => 30 - (intOf i).toNat)
  case atStart => exact ⟨0, by omega, rfl, by rw [wrt_zero]; exact WrX.start _ _⟩
  case round =>
    obtain ⟨k, ⟨hkl, hk30⟩, rfl, hx⟩ := hrel
    have HX := Lib.hid hx
    clear hx
    by_cases hgo : k < l.length ∧ k < 30
    · obtain ⟨hlt, hlt30⟩ := hgo
      · obtain ⟨b, o, rfl, hc⟩ := HR.out (by omega)
        have hck := hc k hlt
        clear hc
        obtain ⟨z, hz⟩ : ∃ z, z = l[k] := ⟨_, rfl⟩
        rw [← hz] at hck
        have hz0 := (HWF.out z (by rw [hz]; exact List.getElem_mem hlt)).1
        obtain ⟨u, rfl⟩ := Int.eq_ofNat_of_zero_le hz0
        have hs : wrt l n (k + 1) = (wrt l n k ++ putB u (cnt (n : Int))) ++ putL u (cnt (n : Int)) := by
          rw [wrt_succ l n k hlt, ← hz, cnt_nat n hn8]; simp
        have HS := Lib.hid hs
        have hln : (wrt l n k).length ≤ 480 := by
          rw [wrt_length l n k hkl]
          exact Nat.le_trans (Nat.mul_le_mul (Nat.mul_le_mul_left 2 hn8) hk30) (by decide)
        have HC0 := Lib.hid hck
        have hck1 := (HF1.out.tr HX.out.fr1).cell hck (by simp)
        clear hz hs hck
        go_wp2_with (first
          | (go_at_call 20; refine (xbig (u : Int) u (n : Int) rfl HX.out (Nat.le_refl _) (by omega)).mono ?_; rintro e w2 ⟨rfl, hx2⟩; have HX2 := Lib.hid hx2; have hck2 := (HF1.out.tr hx2.fr1).cell HC0.out (by simp); clear hx2)
          | (go_at_call 22; refine (xlittle (u : Int) u (n : Int) rfl HX2.out (Nat.le_refl _) (by simp [putB_length]; have := cnt_le (n : Int); omega)).mono ?_; rintro e w3 ⟨rfl, hx3⟩; have HX3 := Lib.hid hx3; clear hx3))
        go_roundw
        case rel => exact ⟨k + 1, by omega, by go_num, HS.out ▸ HX3.out⟩
        case measure => simp [intOf]; omega
    · have hln : (wrt l n k).length ≤ 480 := by
        rw [wrt_length l n k hkl]
        exact Nat.le_trans (Nat.mul_le_mul (Nat.mul_le_mul_left 2 hn8) hk30) (by decide)
      obtain ⟨b, hb⟩ : ∃ b, b = wrt l n k := ⟨_, rfl⟩
      rw [← hb] at HX hln
      have HB := Lib.hid hb
      clear hb
      rcases (show (k < l.length ∧ ¬ k < 30) ∨ ¬ k < l.length by omega) with ⟨hlt, h30⟩ | hlt
      all_goals
        go_wp2_with fail
        refine (xdone HX.out (by omega)).mono ?_
        rintro e w4 ⟨rfl, hb4, hx4, hf4⟩
        have HX4 := Lib.hid hx4
        have HR4 := Lib.hid (rd_blk hb4)
        clear hb4 hx4 hf4
        go_wp2_with fail
        refine (newReader_any _ _ _ b _ rfl HR4.out (by omega)).mono ?_
        rintro e w5 ⟨q, rfl, hq, hq4, hf5⟩
        have HX5 := Lib.hid (HX4.out.fr hf5)
        have HQ5 := Lib.hid hq
        have hs5 := hf5.size
        clear hq hf5
        go_wp2
        go_loopw [9] (fun i wr => ∃ j : Nat, j ≤ k ∧ i = .int .i64 j ∧ Rdr wr q w4.heap.size b (2 * n * j) ∧ Fr [q] w5 wr) (fun i _ => k - (intOf i).toNat)
        case atStart => exact ⟨0, by omega, rfl, HQ5.out, Fr.refl _ _⟩
        case round =>
          obtain ⟨j, hj, rfl, hrd, hfr⟩ := hrel
          have HRD := Lib.hid hrd
          have HFR := Lib.hid hfr
          clear hrd hfr
          by_cases hjk : j < k
          · obtain ⟨bb, o, rfl, hc⟩ := HR.out (by omega)
            have hck := hc j (by omega)
            clear hc
            obtain ⟨z, hz⟩ : ∃ z, z = (l[j]'(by omega)) := ⟨_, rfl⟩
            rw [← hz] at hck
            have hz0 := HWF.out z (by rw [hz]; exact List.getElem_mem _)
            obtain ⟨u, rfl⟩ := Int.eq_ofNat_of_zero_le hz0.1
            have HU : Hid (u < 18446744073709551616) := by have := hz0.2; unfold Hid; omega
            have hj30 : j < 30 := by omega
            have hjl : j < l.length := by omega
            have hck1 := ((HF1.out.tr HX5.out.fr1).trans HFR.out (by have := HF1.out.size; have := HX4.out.fr1.size; simp; omega)).cell hck (by simp)
            obtain ⟨X, hX⟩ := wrt_split l n k j hjk hkl
            rw [← hz, ← HB.out, Int.toNat_natCast] at hX
            obtain ⟨f1, f2, f3, f4, f5, f6⟩ := back_read (wrt l n j) (putB u n) (putL u n) X (2 * n * j) n (wrt_length l n j (by omega)) (putB_length u n) (putL_length u n) hn8
            rw [← hX] at f1 f2 f4 f5
            have hp1 : 2 * n * j ≤ b.length := by rw [hX, List.length_append, wrt_length l n j (by omega)]; omega
            have hp2 : 2 * n * j + n ≤ b.length := by rw [hX, List.length_append, List.length_append, wrt_length l n j (by omega), putB_length]; omega
            have HRH : Hid (Calls Try.prog 13 #[.pointer (some ⟨q, 0, none⟩), .int .i64 (n : Int)] wr fun e w' => e = .returned (.tuple #[.int .u64 ((u % 256 ^ n : Nat) : Int), .int .i64 0]) ∧ Rdr w' q w4.heap.size b (2 * n * j + n) ∧ Fr [q] wr w') := by
              refine (rhighU wr q _ (2 * n * j) b n HRD.out (by omega) hp1).mono ?_
              rintro e w' ⟨rfl, h1, h2⟩
              rw [f1, f2, be_putB]
              rw [f1, f3] at h1
              exact ⟨rfl, h1, h2⟩
            have HRL : Hid (∀ w', Rdr w' q w4.heap.size b (2 * n * j + n) → Calls Try.prog 15 #[.pointer (some ⟨q, 0, none⟩), .int .i64 (n : Int)] w' fun e w'' => e = .returned (.tuple #[.int .u64 ((u % 256 ^ n : Nat) : Int), .int .i64 0]) ∧ Rdr w'' q w4.heap.size b (2 * n * (j + 1)) ∧ Fr [q] w' w'') := by
              intro w' hw'
              refine (rlowU w' q _ (2 * n * j + n) b n hw' (by omega) hp2).mono ?_
              rintro e w'' ⟨rfl, h1, h2⟩
              rw [f4, f5, le_putL]
              rw [f4, f6] at h1
              exact ⟨rfl, by rw [show 2 * n * (j + 1) = 2 * n * j + n + n from by rw [Nat.mul_add]; omega]; exact h1, h2⟩
            clear hck hz hz0 hX f1 f2 f3 f4 f5 f6 hp1 hp2
            by_cases h8 : n < 8
            · obtain ⟨P, hP, hP2, hP0⟩ := shl_one n h8
              have HV : Hid (((u % 256 ^ n : Nat) : Int) = (u : Int) % (P : Int)) := by rw [hP2]; exact Int.natCast_emod _ _
              clear hP2
              go_wp2_with fail
              refine HRH.out.mono ?_
              rintro e w6 ⟨rfl, h6, hf6⟩
              have H6 := Lib.hid h6
              have HF6 := Lib.hid hf6
              clear h6 hf6
              rw [HV.out]
              go_wp2_with fail
              refine (HRL.out w6 H6.out).mono ?_
              rintro e w7 ⟨rfl, h7, hf7⟩
              have H7 := Lib.hid h7
              have HF7 := Lib.hid hf7
              clear h7 hf7
              rw [HV.out]
              go_wp2
              go_roundw
              case rel => exact ⟨j + 1, by omega, by go_num, H7.out, (HFR.out.tr HF6.out).tr HF7.out⟩
              case measure => simp [intOf]; omega
            · have HV : Hid (((u % 256 ^ n : Nat) : Int) = (u : Int)) := by
                have e8 : n = 8 := by omega
                rw [e8]
                have := HU.out
                unfold Hid
                rw [Nat.mod_eq_of_lt (by omega)]
              go_wp2_with fail
              refine HRH.out.mono ?_
              rintro e w6 ⟨rfl, h6, hf6⟩
              have H6 := Lib.hid h6
              have HF6 := Lib.hid hf6
              clear h6 hf6
              rw [HV.out]
              go_wp2_with fail
              refine (HRL.out w6 H6.out).mono ?_
              rintro e w7 ⟨rfl, h7, hf7⟩
              have H7 := Lib.hid h7
              have HF7 := Lib.hid hf7
              clear h7 hf7
              rw [HV.out]
              go_wp2
              go_roundw
              case rel => exact ⟨j + 1, by omega, by go_num, H7.out, (HFR.out.tr HF6.out).tr HF7.out⟩
              case measure => simp [intOf]; omega
          · have e : j = k := by omega
            subst e
            have HBL : Hid (b.length = 2 * n * j) := by unfold Hid; rw [HB.out, wrt_length l n j hkl]
            have HL0 : Hid (Calls Try.prog 18 #[.pointer (some ⟨q, 0, none⟩)] wr fun e w' => e = .returned (.int .i64 0) ∧ ∃ m, w' = wr.drewN m) := by
              refine (left_any wr q _ _ b HRD.out (by rw [HBL.out]; exact Nat.le_refl _) (by omega)).mono ?_
              rintro e w' ⟨rfl, h⟩
              exact ⟨by rw [HBL.out, Int.sub_self], h⟩
            have HA0 : Hid (∀ m, Calls Try.prog 17 #[.pointer (some ⟨q, 0, none⟩)] (wr.drewN m) fun e w' => e = .returned (.int .i64 (b.length : Int)) ∧ wr.drewN m = w') := by
              intro m
              refine (at_any (wr.drewN m) q _ _ b (HRD.out.fr ((Fr.refl [] wr).drewN m) (by simp) (by simp))).mono ?_
              rintro e w' ⟨rfl, h⟩
              exact ⟨by rw [HBL.out], h⟩
            have HN0 : Hid (∀ m, Calls Try.prog 24 #[.pointer (some ⟨w1.heap.size, 0, none⟩)] (wr.drewN m) fun e w' => e = .returned (.int .i64 (b.length : Int)) ∧ wr.drewN m = w') := by
              intro m
              obtain ⟨v, hv, _, _, _⟩ := HX5.out
              exact wlen _ _ _ v b ((hv.fr HFR.out (by have := hv.1.other HQ5.out.1 (by decide); simpa using this) (fun k hk h => by simp at h; subst h; exact hv.2.other HQ5.out.1 (by decide) hk)).fr ((Fr.refl [] wr).drewN m) (by simp) (by simp))
            go_wp2_with fail
            refine HL0.out.mono ?_
            rintro e w6 ⟨rfl, m, rfl⟩
            go_wp2_with fail
            refine (HA0.out m).mono ?_
            rintro e w6 ⟨rfl, rfl⟩
            go_wp2_with fail
            refine (HN0.out m).mono ?_
            rintro e w6 ⟨rfl, rfl⟩
            go_wp2
            go_ret
            exact ⟨rfl, (((HF1.out.tr HX5.out.fr1).trans HFR.out (by have := HF1.out.size; have := HX4.out.fr1.size; simp; omega)).drewN m).below (by simp) (Nat.le_refl _)⟩

end Go.Proofs.Ytgmngkhjjimelaa
