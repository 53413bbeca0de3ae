/-
  picklocklaw02.CrcSums returns true for every input: sums are what the document says. No condition.
-/
import Derived.Test.YtcemljbocaadfaaApp
import Derived.Test.YtcemljbocaadfaaShown
namespace Go.Proofs.Ytcemljbocaadfaa
open Go.RowKit

theorem u32_of {n : Int} (h : (Lit.int .u32 n).wf = true) : ∃ r : BitVec 32, n = u r := by
  have := bounds_u32 h
  exact u_of this.1 (by omega)

set_option maxRecDepth 100000 in
set_option maxHeartbeats 2000000 in
theorem sums_walk (s : BitVec 32) (a0 : Option Addr) (cap0 : Nat) (l : List UInt8) (w : World) (hr : Rd w a0 l) (hc : a0 = none → cap0 = 0) (hlc : l.length ≤ cap0) (_hcm : cap0 ≤ maxLen) :
    Calls Try.prog 3 #[.int .u32 (u s), .slice a0 l.length cap0] w fun e w' => e = .returned (.bool true) ∧ Below w.heap.size w w' := by
  obtain ⟨i0, hi, hz0, hz1, hz2⟩ := info_parts info5
  have HR := Lib.hid hr
  have HC := Lib.hid hc
  have HL := Lib.hid (take_len l 1000 (by omega))
  have hcnt : (min (l.length : Int) 1000).toNat ≤ 1000 := by omega
  unfold maxLen at _hcm
  clear hr hc
  go_enter Try.func3, Try.ntmps3
  go_wp2_with (first
    | (go_at_call 8; refine (shown_any _).mono ?_; rintro e w1 ⟨rfl, hf1⟩; have HF1 := Lib.hid hf1; have hs1 := hf1.size; clear hf1)
    | (at_builtin; refine wpList_app _ rfl (.tmp 7) (.tmp 12) 23 rfl w.heap.size i0 Try.underlying23 hi hz0 hz1 hz2 _ [] rfl (Own.empty w1 _ hs1) a0 _ cap0 (l.take (min (l.length : Int) 1000).toNat) rfl HL.out (rd_take (HR.out.later (HF1.out.alloc _) (by simp)) _) HC.out (by simp; omega) (by simp; omega) ?_))
  intro A1 c1 w2 ho2 hf2 _
  have HF2 : Hid (Fr [] w w2) := (HF1.out.alloc _).trans hf2 (by simp [Value.ownBlock]; omega)
  have HM : Hid ((l.take (min (l.length : Int) 1000).toNat).length = (min (l.length : Int) 1000).toNat) := HL.out
  have HO2 := Lib.hid ho2
  clear ho2 hf2 HL HR HC hlc hs1
  generalize (min (l.length : Int) 1000).toNat = n at *
  generalize l.take n = m at *
  have HR2 := Lib.hid HO2.out.rd
  go_wp2_with fail
  refine (sum_any w2 A1 n c1 m HM.out HR2.out (by omega)).mono ?_
  rintro e w3 ⟨rfl, hf3⟩
  have HF3 : Hid (Fr [] w w3) := HF2.out.tr hf3
  have HR3 := Lib.hid (HR2.out.fr hf3 (by simp))
  clear hf3
  go_wp2_with fail
  refine (rsum_any w3 A1 n c1 m HM.out HR3.out (by omega)).mono ?_
  rintro e w4 ⟨rfl, rfl⟩
  go_wp2_with fail
  refine (next_any w3 s A1 n c1 m HM.out HR3.out (by omega)).mono ?_
  rintro e w5 ⟨rfl, hf5⟩
  have HF5 : Hid (Fr [] w w5) := HF3.out.tr hf5
  have HR5 := Lib.hid (HR3.out.fr hf5 (by simp))
  clear hf5
  go_wp2_with fail
  refine (rnext_any w5 s A1 n c1 m HM.out HR5.out (by omega)).mono ?_
  rintro e w6 ⟨rfl, rfl⟩
  go_wp2
  go_ret
  exact ⟨rfl, HF5.out.below (by simp) (Nat.le_refl _)⟩

end Go.Proofs.Ytcemljbocaadfaa
