/-
  picklocklaw06.UpsCreates returns true for every input: the patch is what the document says. No condition.
-/
import Derived.Test.YtpbjbmmnncohfaaUpsBackLaw
import Derived.Test.YtpbjbmmnncohfaaUpsRef
namespace Go.Proofs.Ytpbjbmmnncohfaa
open Go.RowKit
namespace Ups

set_option maxRecDepth 100000 in
set_option maxHeartbeats 4000000 in
theorem creates_walk (a0 : Option Addr) (cap0 : Nat) (l : List UInt8) (a1 : Option Addr) (cap1 : Nat) (k : List UInt8) (w : World) (hr : Rd w a0 l) (hc : a0 = none → cap0 = 0) (hlc : l.length ≤ cap0) (_hcm : cap0 ≤ maxLen) (hr1 : Rd w a1 k) (hc1 : a1 = none → cap1 = 0) (hlc1 : k.length ≤ cap1) (_hcm1 : cap1 ≤ maxLen) :
    Calls Try.prog 3 #[.slice a0 l.length cap0, .slice a1 k.length cap1] w fun e w' => e = .returned (.bool true) ∧ Below w.heap.size w w' := by
  obtain ⟨i0, hi, hz0, hz1, hz2⟩ := info_parts info5
  have HR := Lib.hid hr
  have HC := Lib.hid hc
  have HR1 := Lib.hid hr1
  have HC1 := Lib.hid hc1
  have HL := Lib.hid (take_len l 2000 (by omega))
  have HL1 := Lib.hid (take_len k 2000 (by omega))
  have hcnt : (min (l.length : Int) 2000).toNat ≤ 2000 := by omega
  have hcnt1 : (min (k.length : Int) 2000).toNat ≤ 2000 := by omega
  unfold maxLen at _hcm _hcm1
  clear hr hc hr1 hc1
  go_enter Try.func3, Try.ntmps3
  go_wp2_with (first
    | (go_at_call 7; refine (shown6 _).mono ?_; rintro e w1 ⟨rfl, hf1⟩; have HF1 := Lib.hid hf1; have hs1 := hf1.size; clear hf1)
    | (at_builtin; refine wpList_app _ rfl (.tmp 9) (.tmp 14) 22 rfl w.heap.size i0 Try.underlying22 hi hz0 hz1 hz2 (.slice (some ⟨w1.heap.size, 0, none⟩) 0 0) [] rfl (Own.empty w1 _ hs1) a0 _ cap0 (l.take (min (l.length : Int) 2000).toNat) rfl HL.out (rd_take (HR.out.later (HF1.out.alloc _) (by simp)) _) HC.out (by simp; omega) (by simp; omega) ?_))
  intro A1 c1 w2 ho2 hf2 hlies
  have HF2 : Hid (Fr [] w w2) := Lib.hid ((HF1.out.alloc _).trans hf2 (by simp [Value.ownBlock]; omega))
  have HM1 : Hid ((l.take (min (l.length : Int) 2000).toNat).length = (min (l.length : Int) 2000).toNat) := HL.out
  have HX : Hid (Rd w2 A1 (l.take (min (l.length : Int) 2000).toNat)) := Lib.hid ho2.rd
  have hs2 := HF2.out.size
  clear ho2 hf2 HR HC HL hlc hs1 hlies
  generalize (min (l.length : Int) 2000).toNat = n1 at *
  generalize l.take n1 = x at *
  go_wp2_with (at_builtin; refine wpList_app _ rfl (.tmp 16) (.tmp 21) 22 rfl w.heap.size i0 Try.underlying22 hi hz0 hz1 hz2 (.slice (some ⟨w2.heap.size, 0, none⟩) 0 0) [] rfl (Own.empty w2 _ hs2) a1 _ cap1 (k.take (min (k.length : Int) 2000).toNat) rfl HL1.out (rd_take (HR1.out.later (HF2.out.alloc _) (by simp)) _) HC1.out (by simp; omega) (by simp; omega) ?_)
  intro A2 c2 w3 ho3 hf3 hlies
  have HF3' : Hid (Fr [] w2 w3) := Lib.hid (((Fr.refl [] w2).alloc _).trans hf3 (by simp [Value.ownBlock]))
  have HF3 : Hid (Fr [] w w3) := Lib.hid (HF2.out.tr HF3'.out)
  have HM2 : Hid ((k.take (min (k.length : Int) 2000).toNat).length = (min (k.length : Int) 2000).toNat) := HL1.out
  have HY : Hid (Rd w3 A2 (k.take (min (k.length : Int) 2000).toNat)) := Lib.hid ho3.rd
  have HX3 := Lib.hid (HX.out.later HF3'.out (by simp))
  clear ho3 hf3 HR1 HC1 HL1 hlc1 hs2 hlies HX
  generalize (min (k.length : Int) 2000).toNat = n2 at *
  generalize k.take n2 = y at *
  go_wp2_with fail
  refine (create_any w3 A1 A2 n1 c1 n2 c2 x y HM1.out HM2.out HX3.out HY.out (by omega) (by omega)).mono ?_
  rintro e w4 ⟨g, rfl, hg4, hb4, hf4⟩
  have HR4 := Lib.hid (rd_blk hb4)
  have HF4 := Lib.hid (HF3.out.tr hf4)
  have hps := patch_small x y (by rw [HM1.out]; exact hcnt) (by rw [HM2.out]; exact hcnt1)
  obtain ⟨L, hL⟩ : ∃ L, (patch x y).length = L := ⟨_, rfl⟩
  rw [hL] at hps ⊢
  have HLp := Lib.hid hL
  have HX4 := Lib.hid (HX3.out.later hf4 (by simp))
  have HY4 := Lib.hid (HY.out.later hf4 (by simp))
  clear hg4 hb4 hf4 hL HX3 HY
  go_wp2_with fail
  refine (refcreate_any w4 A1 A2 n1 c1 n2 c2 x y HM1.out HM2.out HX4.out HY4.out (by omega) (by omega)).mono ?_
  rintro e w5 ⟨A5, c5, rfl, ho5, hf5⟩
  rw [HLp.out] at ho5 ⊢
  have HO5 := Lib.hid ho5.rd
  have HF5 := Lib.hid hf5
  clear ho5 hf5
  go_wp2_with fail
  refine (same_eq w5 (some ⟨g, 0, none⟩) A5 L L L c5 (patch x y) HLp.out HLp.out (HR4.out.later HF5.out (by simp)) HO5.out).mono ?_
  rintro e w6 ⟨rfl, rfl⟩
  go_wp2
  go_ret
  exact ⟨rfl, (HF4.out.tr HF5.out).below (by simp) (Nat.le_refl _)⟩

end Ups
end Go.Proofs.Ytpbjbmmnncohfaa
