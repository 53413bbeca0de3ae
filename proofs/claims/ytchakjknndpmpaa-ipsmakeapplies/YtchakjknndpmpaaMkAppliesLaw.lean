/-
  picklocklaw05.IpsmakeApplies returns true for every input: the patch makes the one of the other, by the document's own way to apply it, and by Apply. No condition.
-/
import Derived.Test.YtchakjknndpmpaaMkRef
namespace Go.Proofs.Ytchakjknndpmpaa
open Go.RowKit
namespace Ips

set_option maxRecDepth 100000 in
set_option maxHeartbeats 4000000 in
theorem mapplies_walk (a0 : Option Addr) (cap0 : Nat) (l : List UInt8) (a1 : Option Addr) (cap1 : Nat) (k : List UInt8) (w : World) (hr : Rd w a0 l) (hc : a0 = none → cap0 = 0) (hlc : l.length ≤ cap0) (_hcm : cap0 ≤ maxLen) (hr1 : Rd w a1 k) (hc1 : a1 = none → cap1 = 0) (hlc1 : k.length ≤ cap1) (_hcm1 : cap1 ≤ maxLen) :
    Calls Try.prog 3 #[.slice a0 l.length cap0, .slice a1 k.length cap1] w fun e w' => e = .returned (.bool true) ∧ Below w.heap.size w w' := by
  obtain ⟨i0, hi, hz0, hz1, hz2⟩ := info_parts info5
  have HR := Lib.hid hr
  have HC := Lib.hid hc
  have HR1 := Lib.hid hr1
  have HC1 := Lib.hid hc1
  have HL := Lib.hid (take_len l 3000 (by omega))
  have HL1 := Lib.hid (take_len k 3000 (by omega))
  have hcnt : (min (l.length : Int) 3000).toNat ≤ 3000 := by omega
  have hcnt1 : (min (k.length : Int) 3000).toNat ≤ 3000 := by omega
  unfold maxLen at _hcm _hcm1
  clear hr hc hr1 hc1
  go_enter Try.func3, Try.ntmps3
  go_wp2_with (first
    | (go_at_call 8; refine (shown5 _).mono ?_; rintro e w1 ⟨rfl, hf1⟩; have HF1 := Lib.hid hf1; have hs1 := hf1.size; clear hf1)
    | (at_builtin; refine wpList_app _ rfl (.tmp 14) (.tmp 19) 22 rfl w.heap.size i0 Try.underlying22 hi hz0 hz1 hz2 (.slice (some ⟨w1.heap.size, 0, none⟩) 0 0) [] rfl (Own.empty w1 _ hs1) a0 _ cap0 (l.take (min (l.length : Int) 3000).toNat) rfl HL.out (rd_take (HR.out.later (HF1.out.alloc _) (by simp)) _) HC.out (by simp; omega) (by simp; omega) ?_))
  intro A1 c1 w2 ho2 hf2 hlies
  have HF2 : Hid (Fr [] w w2) := Lib.hid ((HF1.out.alloc _).trans hf2 (by simp [Value.ownBlock]; omega))
  have HM1 : Hid ((l.take (min (l.length : Int) 3000).toNat).length = (min (l.length : Int) 3000).toNat) := HL.out
  have HX : Hid (Rd w2 A1 (l.take (min (l.length : Int) 3000).toNat)) := Lib.hid ho2.rd
  have HXn : Hid (A1 = none → c1 = 0) := Lib.hid (by rcases ho2.form0 with ⟨_, _, h⟩ | ⟨g, h⟩; exact fun _ => h; exact fun e => by rw [h] at e; cases e)
  have hs2 := HF2.out.size
  clear ho2 hf2 HR HC HL hlc hs1 hlies
  generalize (min (l.length : Int) 3000).toNat = n1 at *
  generalize l.take n1 = x at *
  go_wp2_with (at_builtin; refine wpList_app _ rfl (.tmp 21) (.tmp 26) 22 rfl w.heap.size i0 Try.underlying22 hi hz0 hz1 hz2 (.slice (some ⟨w2.heap.size, 0, none⟩) 0 0) [] rfl (Own.empty w2 _ hs2) a1 _ cap1 (k.take (min (k.length : Int) 3000).toNat) rfl HL1.out (rd_take (HR1.out.later (HF2.out.alloc _) (by simp)) _) HC1.out (by simp; omega) (by simp; omega) ?_)
  intro A2 c2 w3 ho3 hf3 hlies
  have HF3' : Hid (Fr [] w2 w3) := Lib.hid (((Fr.refl [] w2).alloc _).trans hf3 (by simp [Value.ownBlock]))
  have HF3 : Hid (Fr [] w w3) := Lib.hid (HF2.out.tr HF3'.out)
  have HM2 : Hid ((k.take (min (k.length : Int) 3000).toNat).length = (min (k.length : Int) 3000).toNat) := HL1.out
  have HY : Hid (Rd w3 A2 (k.take (min (k.length : Int) 3000).toNat)) := Lib.hid ho3.rd
  have HX3 := Lib.hid (HX.out.later HF3'.out (by simp))
  obtain ⟨hnc1, hnc2⟩ := ho3.caps
  clear ho3 hf3 HR1 HC1 HL1 hlc1 hs2 hlies HX
  generalize (min (k.length : Int) 3000).toNat = n2 at *
  generalize k.take n2 = y at *
  go_wp2_with fail
  refine (create5 w3 A1 A2 n1 c1 n2 c2 x y HM1.out HM2.out (by omega) (by omega) HX3.out HY.out hnc1 (by unfold maxLen; omega)).mono ?_
  rintro e w4 ⟨rs, g, hM, rfl, ho4, hf4⟩
  have HMk := Lib.hid hM
  have HR4 := Lib.hid ho4.rd
  have HF4 := Lib.hid hf4
  have hL := made_length x y rs hM
  have hD := D_le x y y.length
  have hCt := made_count x y rs
  have hEnd := made_end x y rs hM
  rw [HM2.out] at hL hD hEnd
  obtain ⟨L, hLe⟩ : ∃ L, (made x y rs).length = L := ⟨_, rfl⟩
  have HLe := Lib.hid hLe
  rw [hLe] at hL hCt ⊢
  have HX4 := Lib.hid (HX3.out.later hf4 (by simp))
  have HY4 := Lib.hid (HY.out.later hf4 (by simp))
  have hL2 : L ≤ 20000 := by omega
  clear hM ho4 hf4 hLe hL hD HX3 HY
  go_wp2_with fail
  refine (refparseM w4 (some ⟨g, 0, none⟩) L L x y rs HMk.out HLe.out HR4.out (Nat.le_refl _) (by omega) (by rw [HM1.out]; omega)).mono ?_
  rintro e w5 ⟨A5, c5, rfl, hr5, hf5⟩
  simp only at hr5 ⊢
  have HR5 := Lib.hid hr5
  have HF5 := Lib.hid hf5
  obtain ⟨q, hq⟩ : ∃ q, rs.length = q := ⟨_, rfl⟩
  have HQ := Lib.hid hq
  obtain ⟨cut, hcut⟩ : ∃ cut, cutOf x y = cut := ⟨_, rfl⟩
  have HCut := Lib.hid hcut
  rw [hq] at hCt ⊢
  rw [hcut]
  clear hr5 hf5 hq hcut
  obtain ⟨rc, hrc⟩ : ∃ rc, reach 0 rs = rc := ⟨_, rfl⟩
  have HRc : Hid (Calls Try.prog 11 #[.slice A5 q c5] w5 fun e w' => e = .returned (.int .i64 (rc : Int)) ∧ Fr [] w5 w') := Lib.hid (by rw [← hrc]; exact refend_any w5 A5 q c5 rs HQ.out HR5.out (made_fits HMk.out) (by omega))
  rw [hrc] at hEnd
  have hrc' : ¬ (n2 : Int) < rc := by omega
  have hrc2 : decide ((n2 : Int) < rc) = false := by simp; omega
  clear hrc
  go_wp2_with fail
  refine HRc.out.mono ?_
  rintro e w6 ⟨rfl, hf6⟩
  have HF6 := Lib.hid hf6
  have HR6 := Lib.hid (HR5.out.later hf6 (by simp))
  clear hf6 HRc
  go_wp2_with fail
  refine (applyM w6 (some ⟨g, 0, none⟩) A1 L L n1 c1 x y rs HMk.out HLe.out (HR4.out.later (HF5.out.tr HF6.out) (by simp)) (by omega) HM1.out (by omega) (by rw [HM2.out]; omega) (HX4.out.later (HF5.out.tr HF6.out) (by simp))).mono ?_
  rintro e w7 ⟨A7, c7, rfl, hr7, -, -, -, hf7⟩
  simp only at hr7 ⊢
  rw [HM2.out]
  have HR7 := Lib.hid hr7
  have HF7 := Lib.hid hf7
  clear hr7 hf7
  go_wp2_with fail
  refine (same_eq w7 A7 A2 n2 n2 c7 c2 y HM2.out HM2.out HR7.out (HY4.out.later ((HF5.out.tr HF6.out).tr HF7.out) (by simp))).mono ?_
  rintro e w8 ⟨rfl, rfl⟩
  go_wp2_with fail
  refine (refapplyM w7 A5 A1 q c5 n1 c1 cut x y rs HMk.out HCut.out HQ.out (HR6.out.later HF7.out (by simp)) (by omega) HM1.out (by omega) (HX4.out.later ((HF5.out.tr HF6.out).tr HF7.out) (by simp)) HXn.out).mono ?_
  rintro e w9 ⟨A9, c9, rfl, hr9, hf9⟩
  rw [HM2.out]
  have HR9 := Lib.hid hr9
  have HF9 := Lib.hid hf9
  clear hr9 hf9
  go_wp2_with fail
  refine (same_eq w9 A9 A2 n2 n2 c9 c2 y HM2.out HM2.out HR9.out (HY4.out.later (((HF5.out.tr HF6.out).tr HF7.out).tr HF9.out) (by simp))).mono ?_
  rintro e w10 ⟨rfl, rfl⟩
  go_wp2
  go_ret
  exact ⟨rfl, (((((HF3.out.tr HF4.out).tr HF5.out).tr HF6.out).tr HF7.out).tr HF9.out).below (by simp) (Nat.le_refl _)⟩

end Ips
end Go.Proofs.Ytchakjknndpmpaa
