/-
  picklocklaw02.CrcParts returns true for every input: bytes may be summed in parts. No condition.
-/
import Derived.Test.YtcemljbocaadfaaApp
import Derived.Test.YtcemljbocaadfaaShown
namespace Go.Proofs.Ytcemljbocaadfaa
open Go.RowKit

theorem Own.some_ {w w0 : World} {B n c g0 : Nat} {A : Option Addr} {l : List UInt8} (h : Own w B (.slice A n c) l) (hl : Lies w0 (.slice (some ⟨g0, 0, none⟩) 0 0) (.slice A n c)) : ∃ g, A = some ⟨g, 0, none⟩ := by
  rcases h.2 with ⟨hv, _⟩ | ⟨g, cap', cur, hv, _⟩
  · cases hv
    rcases hl with hl | ⟨k, hk, _⟩
    · simp [Value.ownBlock] at hl
    · simp [Value.ownBlock] at hk
  · cases hv; exact ⟨g, rfl⟩

theorem and65535 (n : Int) : 0 ≤ bits .and .i64 n 65535 ∧ bits .and .i64 n 65535 ≤ 65535 := by
  have h : (BitVec.ofInt 64 65535).toNat = 2 ^ 16 - 1 := by decide
  have key : (BitVec.ofInt 64 n &&& BitVec.ofInt 64 65535).toNat = (n % ((2 ^ 64 : Nat) : Int)).toNat % 2 ^ 16 := by
    rw [BitVec.toNat_and, BitVec.toNat_ofInt, h, Nat.and_two_pow_sub_one_eq_mod]
  have e : bits .and .i64 n 65535 = IntKind.i64.wrap ((BitVec.ofInt 64 n &&& BitVec.ofInt 64 65535).toNat : Nat) := rfl
  rw [e, key, IntKind.wrap_i64]
  omega
/-- A place up to k. -/
theorem place_of (z k : Int) (hk : 0 ≤ k) : ∃ p : Nat, (bits .and .i64 z 65535).tmod (k + 1) = (p : Int) ∧ (p : Int) ≤ k := by
  have h := and65535 z
  rw [Int.tmod_eq_emod_of_nonneg h.1]
  have h1 := Int.emod_nonneg (bits .and .i64 z 65535) (show k + 1 ≠ 0 by omega)
  have h2 := Int.emod_lt_of_pos (bits .and .i64 z 65535) (show 0 < k + 1 by omega)
  exact ⟨((bits .and .i64 z 65535) % (k + 1)).toNat, by omega, by omega⟩

theorem cut_rd {w : World} {g c k n : Nat} {l : List UInt8} (h : Rd w (some ⟨g, 0, none⟩) l) (hn : k + n ≤ l.length) (hc : l.length ≤ c) : Rd w (if c = k then some (⟨g, 0, none⟩ : Addr) else some ⟨g, k, none⟩) ((l.drop k).take n) := by
  by_cases hk : c = k
  · rw [if_pos hk]
    exact fun h0 => by simp at h0; omega
  · rw [if_neg hk]
    intro h0
    obtain ⟨b, o, e, hx⟩ := h (by simp at h0; omega)
    cases e
    simpa using Rd.cut hx k n h0

set_option maxRecDepth 100000 in
set_option maxHeartbeats 2000000 in
theorem parts_walk (a0 : Option Addr) (cap0 : Nat) (l : List UInt8) (z1 z2 : Int) (w : World) (hr : Rd w a0 l) (hc : a0 = none → cap0 = 0) (hlc : l.length ≤ cap0) (_hcm : cap0 ≤ maxLen) :
    Calls Try.prog 5 #[.slice a0 l.length cap0, .int .i64 z1, .int .i64 z2] w fun e w' => e = .returned (.bool true) ∧ Below w.heap.size w w' := by
  obtain ⟨i0, hi, hz0, hz1, hz2⟩ := info_parts info5
  have HR := Lib.hid hr
  have HC := Lib.hid hc
  have HL := Lib.hid (take_len l 1000 (by omega))
  have hcnt : (min (l.length : Int) 1000).toNat ≤ 1000 := by omega
  unfold maxLen at _hcm
  clear hr hc
  go_enter Try.func5, Try.ntmps5
  go_wp2_with (first
    | (go_at_call 8; refine (shown_any _).mono ?_; rintro e w1 ⟨rfl, hf1⟩; have HF1 := Lib.hid hf1; have hs1 := hf1.size; clear hf1)
    | (at_builtin; refine wpList_app _ rfl (.tmp 9) (.tmp 14) 23 rfl w.heap.size i0 Try.underlying23 hi hz0 hz1 hz2 _ [] rfl (Own.empty w1 _ hs1) a0 _ cap0 (l.take (min (l.length : Int) 1000).toNat) rfl HL.out (rd_take (HR.out.later (HF1.out.alloc _) (by simp)) _) HC.out (by simp; omega) (by simp; omega) ?_))
  intro A1 c1 w2 ho2 hf2 hl2
  have HF2 : Hid (Fr [] w w2) := (HF1.out.alloc _).trans hf2 (by simp [Value.ownBlock]; omega)
  have HM : Hid ((l.take (min (l.length : Int) 1000).toNat).length = (min (l.length : Int) 1000).toNat) := HL.out
  obtain ⟨g, rfl⟩ := ho2.some_ hl2
  have HO2 := Lib.hid ho2
  clear ho2 hf2 hl2 HL HR HC hlc hs1
  generalize (min (l.length : Int) 1000).toNat = n at *
  generalize l.take n = m at *
  have HR2 := Lib.hid HO2.out.rd
  obtain ⟨hnc1, hnc2⟩ := HO2.out.caps
  obtain ⟨p, hp, hpn⟩ := place_of z1 n (by omega)
  obtain ⟨d, hd, hdn⟩ := place_of z2 ((n : Int) - p) (by omega)
  obtain ⟨q, hq⟩ : ∃ q : Nat, (p : Int) + d = q := ⟨p + d, by omega⟩
  have hqn : (q : Int) ≤ n := by omega
  have hpq : (p : Int) ≤ q := by omega
  clear hdn
  have HP : Hid ((m.take p).length = p) := by
    show (m.take p).length = p
    rw [List.length_take, HM.out]
    omega
  have hpc : (p : Int) ≤ c1 := by omega
  have hqc : (q : Int) ≤ c1 := by omega
  have hp0 : (0 : Int) ≤ p := by omega
  have hq0 : (0 : Int) ≤ q := by omega
  obtain ⟨s1, hs1⟩ : ∃ s1, s1 = next 0#32 (m.take p) := ⟨_, rfl⟩
  have HS1 := Lib.hid hs1
  clear hs1
  have C1 : Hid (∀ w', Fr [] w2 w' → Calls Try.prog 9 #[.slice (some ⟨g, 0, none⟩) p c1] w' fun e w'' => e = .returned (.int .u32 (u s1)) ∧ Fr [] w' w'') := by
    intro w' hf
    rw [HS1.out]
    exact sum_any w' _ p c1 (m.take p) HP.out ((rd_take HR2.out p).fr hf (by simp)) (by omega)
  obtain ⟨A2, hA2⟩ : ∃ A2, (if c1 = p then some (⟨g, 0, none⟩ : Addr) else some ⟨g, p, none⟩) = A2 := ⟨_, rfl⟩
  obtain ⟨A3, hA3⟩ : ∃ A3, (if c1 = q then some (⟨g, 0, none⟩ : Addr) else some ⟨g, q, none⟩) = A3 := ⟨_, rfl⟩
  have HR3 : Hid (Rd w2 A2 ((m.drop p).take (q - p))) := by
    rw [← hA2]
    exact cut_rd HR2.out (by rw [HM.out]; omega) (by rw [HM.out]; omega)
  have HR4 : Hid (Rd w2 A3 ((m.drop q).take (n - q))) := by
    rw [← hA3]
    exact cut_rd HR2.out (by rw [HM.out]; omega) (by rw [HM.out]; omega)
  obtain ⟨s2, hs2⟩ : ∃ s2, s2 = next s1 ((m.drop p).take (q - p)) := ⟨_, rfl⟩
  obtain ⟨s3, hs3⟩ : ∃ s3, s3 = next s2 ((m.drop q).take (n - q)) := ⟨_, rfl⟩
  have HS2 := Lib.hid hs2
  have HS3 := Lib.hid hs3
  clear hs2 hs3
  have C2 : Hid (∀ w', Fr [] w2 w' → Calls Try.prog 11 #[.int .u32 (u s1), .slice A2 (q - p) (c1 - p)] w' fun e w'' => e = .returned (.int .u32 (u s2)) ∧ Fr [] w' w'') := by
    intro w' hf
    rw [HS2.out]
    exact next_any w' s1 _ (q - p) _ _ (by rw [List.length_take, List.length_drop, HM.out]; omega) (HR3.out.fr hf (by simp)) (by omega)
  have C3 : Hid (∀ w', Fr [] w2 w' → Calls Try.prog 11 #[.int .u32 (u s2), .slice A3 (n - q) (c1 - q)] w' fun e w'' => e = .returned (.int .u32 (u s3)) ∧ Fr [] w' w'') := by
    intro w' hf
    rw [HS3.out]
    exact next_any w' s2 _ (n - q) _ _ (by rw [List.length_take, List.length_drop, HM.out]; omega) (HR4.out.fr hf (by simp)) (by omega)
  have HALL : Hid (s3 = next 0#32 m) := by
    show s3 = next 0#32 m
    rw [HS3.out, HS2.out, HS1.out, ← next_append, ← next_append]
    congr 1
    have e1 : (m.drop q).take (n - q) = m.drop q := List.take_of_length_le (by rw [List.length_drop, HM.out]; omega)
    have e2 : (m.drop p).take (q - p) ++ m.drop q = m.drop p := by
      have := List.take_append_drop (q - p) (m.drop p)
      rwa [List.drop_drop, show p + (q - p) = q by omega] at this
    rw [e1, e2, List.take_append_drop]
  have C4 : Hid (∀ w', Fr [] w2 w' → Calls Try.prog 9 #[.slice (some ⟨g, 0, none⟩) n c1] w' fun e w'' => e = .returned (.int .u32 (u s3)) ∧ Fr [] w' w'') := by
    intro w' hf
    rw [HALL.out]
    exact sum_any w' _ n c1 m HM.out (HR2.out.fr hf (by simp)) (by omega)
  go_wp2
  clear hp hd hq _hcm
  go_region_held3 (fun w' => Fr [] w2 w') (first | exact (Fr.refl [] w2).drew | exact Fr.tr (by assumption) HF6.out | exact Fr.tr (by assumption) HF5.out | exact Fr.tr (by assumption) HF4.out | exact Fr.tr (by assumption) HF3.out)
    (first
    | (go_at_call_of 9 (Value.slice (some (⟨g, 0, none⟩ : Addr)) p c1); refine (C1.out _ (by assumption)).mono ?_; rintro e w3 ⟨rfl, hf3⟩; have HF3 := Lib.hid hf3; clear hf3)
    | (go_at_call_of 11 (Value.int .u32 (u s1)); refine (C2.out _ (by assumption)).mono ?_; rintro e w4 ⟨rfl, hf4⟩; have HF4 := Lib.hid hf4; clear hf4)
    | (go_at_call_of 11 (Value.int .u32 (u s2)); refine (C3.out _ (by assumption)).mono ?_; rintro e w5 ⟨rfl, hf5⟩; have HF5 := Lib.hid hf5; clear hf5)
    | (go_at_call_of 9 (Value.slice (some (⟨g, 0, none⟩ : Addr)) n c1); refine (C4.out _ (by assumption)).mono ?_; rintro e w6 ⟨rfl, hf6⟩; have HF6 := Lib.hid hf6; clear hf6))
  have HF7 : Hid (Fr [] w2 w6) := by assumption
  go_wp2
  go_ret
  exact ⟨rfl, (HF2.out.tr HF7.out).below (by simp) (Nat.le_refl _)⟩

end Go.Proofs.Ytcemljbocaadfaa
