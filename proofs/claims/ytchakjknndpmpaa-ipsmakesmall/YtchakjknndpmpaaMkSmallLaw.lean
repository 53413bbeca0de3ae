/-
  picklocklaw05.IpsmakeSmall returns true for every input: a patch has not more than 14 bytes, and 6 for each byte that is not the same. No condition.
-/
import Derived.Test.YtchakjknndpmpaaMkDiffer
namespace Go.Proofs.Ytchakjknndpmpaa
open Go.RowKit
namespace Ips

set_option maxRecDepth 100000 in
set_option maxHeartbeats 4000000 in
theorem msmall_walk (a0 : Option Addr) (cap0 : Nat) (l : List UInt8) (a1 : Option Addr) (cap1 : Nat) (k : List UInt8) (w : World) (hr : Rd w a0 l) (hc : a0 = none → cap0 = 0) (hlc : l.length ≤ cap0) (_hcm : cap0 ≤ maxLen) (hr1 : Rd w a1 k) (hc1 : a1 = none → cap1 = 0) (hlc1 : k.length ≤ cap1) (_hcm1 : cap1 ≤ maxLen) :
    Calls Try.prog 5 #[.slice a0 l.length cap0, .slice a1 k.length cap1] w fun e w' => e = .returned (.bool true) ∧ Below w.heap.size w w' := by
  obtain ⟨i0, hi, hz0, hz1, hz2⟩ := info_parts info5
  have HR := Lib.hid hr
  have HC := Lib.hid hc
  have HR1 := Lib.hid hr1
  have HC1 := Lib.hid hc1
  have HL := Lib.hid (take_len l 3000 (by omega))
  have HL1 := Lib.hid (take_len k 3000 (by omega))
  have hcnt : (min (l.length : Int) 3000).toNat ≤ 3000 := by omega
  have hcnt1 : (min (k.length : Int) 3000).toNat ≤ 3000 := by omega
  unfold maxLen at _hcm _hcm1
  clear hr hc hr1 hc1
  go_enter Try.func5, Try.ntmps5
  go_wp2_with (first
    | (go_at_call 8; refine (shown5 _).mono ?_; rintro e w1 ⟨rfl, hf1⟩; have HF1 := Lib.hid hf1; have hs1 := hf1.size; clear hf1)
    | (at_builtin; refine wpList_app _ rfl (.tmp 10) (.tmp 15) 22 rfl w.heap.size i0 Try.underlying22 hi hz0 hz1 hz2 (.slice (some ⟨w1.heap.size, 0, none⟩) 0 0) [] rfl (Own.empty w1 _ hs1) a0 _ cap0 (l.take (min (l.length : Int) 3000).toNat) rfl HL.out (rd_take (HR.out.later (HF1.out.alloc _) (by simp)) _) HC.out (by simp; omega) (by simp; omega) ?_))
  intro A1 c1 w2 ho2 hf2 hlies
  have HF2 : Hid (Fr [] w w2) := Lib.hid ((HF1.out.alloc _).trans hf2 (by simp [Value.ownBlock]; omega))
  have HM1 : Hid ((l.take (min (l.length : Int) 3000).toNat).length = (min (l.length : Int) 3000).toNat) := HL.out
  have HX : Hid (Rd w2 A1 (l.take (min (l.length : Int) 3000).toNat)) := Lib.hid ho2.rd
  have hs2 := HF2.out.size
  clear ho2 hf2 HR HC HL hlc hs1 hlies
  generalize (min (l.length : Int) 3000).toNat = n1 at *
  generalize l.take n1 = x at *
  go_wp2_with (at_builtin; refine wpList_app _ rfl (.tmp 17) (.tmp 22) 22 rfl w.heap.size i0 Try.underlying22 hi hz0 hz1 hz2 (.slice (some ⟨w2.heap.size, 0, none⟩) 0 0) [] rfl (Own.empty w2 _ hs2) a1 _ cap1 (k.take (min (k.length : Int) 3000).toNat) rfl HL1.out (rd_take (HR1.out.later (HF2.out.alloc _) (by simp)) _) HC1.out (by simp; omega) (by simp; omega) ?_)
  intro A2 c2 w3 ho3 hf3 hlies
  have HF3' : Hid (Fr [] w2 w3) := Lib.hid (((Fr.refl [] w2).alloc _).trans hf3 (by simp [Value.ownBlock]))
  have HF3 : Hid (Fr [] w w3) := Lib.hid (HF2.out.tr HF3'.out)
  have HM2 : Hid ((k.take (min (k.length : Int) 3000).toNat).length = (min (k.length : Int) 3000).toNat) := HL1.out
  have HY : Hid (Rd w3 A2 (k.take (min (k.length : Int) 3000).toNat)) := Lib.hid ho3.rd
  have HX3 := Lib.hid (HX.out.later HF3'.out (by simp))
  obtain ⟨hnc1, hnc2⟩ := ho3.caps
  clear ho3 hf3 HR1 HC1 HL1 hlc1 hs2 hlies HX
  generalize (min (k.length : Int) 3000).toNat = n2 at *
  generalize k.take n2 = y at *
  go_wp2_with fail
  refine (create5 w3 A1 A2 n1 c1 n2 c2 x y HM1.out HM2.out (by omega) (by omega) HX3.out HY.out hnc1 (by unfold maxLen; omega)).mono ?_
  rintro e w4 ⟨rs, g, hM, rfl, ho4, hf4⟩
  have HMk := Lib.hid hM
  have HR4 := Lib.hid ho4.rd
  have HF4 := Lib.hid hf4
  have hL := made_length x y rs hM
  have hD := D_le x y y.length
  have HSame : Hid (D x y n2 = 0 → ¬ n2 < n1 → made x y rs = [80, 65, 84, 67, 72, 69, 79, 70]) := Lib.hid fun h1 h2 => by
    rw [made_same x y rs hM (by rw [HM2.out]; exact h1)]
    unfold tl
    rw [if_neg (by rw [HM1.out, HM2.out]; exact h2)]
    rfl
  rw [HM2.out] at hL hD
  obtain ⟨L, hLe⟩ : ∃ L, (made x y rs).length = L := ⟨_, rfl⟩
  have HLe := Lib.hid hLe
  rw [hLe] at hL ⊢
  have HX4 := Lib.hid (HX3.out.later hf4 (by simp))
  have HY4 := Lib.hid (HY.out.later hf4 (by simp))
  clear hM ho4 hf4 hLe HX3 HY HMk
  have HDf := Lib.hid (differ5 w4 A1 A2 n1 c1 n2 c2 x y HM1.out HM2.out (by omega) (by omega) HX4.out HY4.out)
  generalize made x y rs = M at *
  generalize D x y n2 = dn at *
  have hL' : (L : Int) ≤ 14 + 6 * (dn : Int) := by omega
  go_wp2_with fail
  refine HDf.out.mono ?_
  rintro e w5 ⟨rfl, hf5⟩
  have HF5 := Lib.hid hf5
  clear hf5 HDf
  by_cases hd0 : dn = 0
  · subst hd0
    by_cases hlt : n2 < n1
    · have hlt' : (n2 : Int) < n1 := by omega
      go_wp2
      go_ret
      exact ⟨rfl, ((HF3.out.tr HF4.out).tr HF5.out).below (by simp) (Nat.le_refl _)⟩
    · have hlt' : ¬ (n2 : Int) < n1 := by omega
      have hlt2 : decide ((n2 : Int) < n1) = false := by simp; omega
      have e := HSame.out rfl hlt
      subst e
      have hL8 : L = 8 := by rw [← HLe.out]; rfl
      subst hL8
      have k2 := run_str (P := Try.prog) (w := w5) 22 9 5 (cap := 8) Try.underlying22 Try.underlying5 Try.underlying9 (HR4.out.later HF5.out (by simp))
      simp at k2
      go_wp2
      go_ret
      exact ⟨rfl, ((HF3.out.tr HF4.out).tr HF5.out).below (by simp) (Nat.le_refl _)⟩
  · have hd1 : (0 : Int) < dn := by omega
    have hd2 : 0 < dn := by omega
    clear hd0
    go_wp2
    go_ret
    exact ⟨rfl, ((HF3.out.tr HF4.out).tr HF5.out).below (by simp) (Nat.le_refl _)⟩

end Ips
end Go.Proofs.Ytchakjknndpmpaa
