/-
  picklocklaw05.shown returns true, and turns nothing that was there.
-/
import Derived.Test.YtchakjknndpmpaaMkCreate
import Derived.Test.YtchakjknndpmpaaIpsApply
namespace Go.Proofs.Ytchakjknndpmpaa
open Go.RowKit
namespace Ips

theorem made_same (a b : List UInt8) (rs : List Rec) (h : Makes a b rs) (hd : D a b b.length = 0) : made a b rs = patch ++ (eof ++ tl a b) := by
  rw [made_none a b rs h hd]
  rfl

def abc : List UInt8 := [97, 98, 99]
def aXc : List UInt8 := [97, 88, 99]
theorem same_abc : D abc abc abc.length = 0 := by decide
theorem same_a : D abc [97] [(97 : UInt8)].length = 0 := by decide
theorem tl_abc : patch ++ (eof ++ tl abc abc) = [80, 65, 84, 67, 72, 69, 79, 70] := by decide
theorem tl_a : patch ++ (eof ++ tl abc [97]) = [80, 65, 84, 67, 72, 69, 79, 70, 0, 0, 1] := by decide

theorem applyM (w : World) (A A' : Option Addr) (n c m c' : Nat) (a b : List UInt8) (rs : List Rec) (hM : Makes a b rs) (hn : (made a b rs).length = n) (h : Rd w A (made a b rs)) (hl : n ≤ 16777216) (hm : a.length = m) (hx : m ≤ 16777216) (hb : b.length ≤ 16777216) (hX : Rd w A' a) :
    Calls Try.prog 12 #[.slice A n c, .slice A' m c'] w (Applied w (0, b)) := by
  rw [← made_applied a b rs hM (by omega) hb (by omega)]
  exact apply_any w A A' n c m c' _ a hn h hm (by omega) hX

set_option maxRecDepth 100000 in
set_option maxHeartbeats 2000000 in
theorem shown5 (w : World) : Calls Try.prog 8 #[] w fun e w' => e = .returned (.bool true) ∧ Fr [] w w' := by
  have kc := conv_const w w.heap.size rfl (bv abc).toArray 3 3
  have kd := conv_const (w.alloc (.cells (bv abc).toArray 5 (3, 4))) (w.heap.size + 1) (by simp) (bv aXc).toArray 3 3
  simp [bv, abc, aXc] at kc kd
  go_enter Try.func8, Try.ntmps8
  go_wp2_with fail
  clear kc kd
  refine (create5 ((w.alloc (.cells (bv abc).toArray 5 (3, 4))).alloc (.cells (bv aXc).toArray 5 (3, 4))) (some ⟨w.heap.size, 0, none⟩) (some ⟨w.heap.size + 1, 0, none⟩) 3 3 3 3 abc aXc rfl rfl (by decide) (by decide) ((rd_const w _ rfl abc 5 _).later (S := []) ((Fr.refl [] _).alloc _) (by simp)) (rd_const _ _ (by simp) aXc 5 _) (by decide) (by simp [maxLen])).mono ?_
  rintro e w1 ⟨rs1, g1, hm1, rfl, ho1, hf1⟩
  have HM1 := Lib.hid hm1
  have HR1 := Lib.hid ho1.rd
  have HF1 : Hid (Fr [] w w1) := Lib.hid ((((Fr.refl [] w).alloc _).alloc _).tr hf1)
  have HN1 : Hid ((made abc aXc rs1).length ≤ 32) := Lib.hid (by have h := made_length abc aXc rs1 hm1; have h2 := D_le abc aXc aXc.length; simp only [show aXc.length = 3 from rfl] at h h2; omega)
  obtain ⟨L1, hL1⟩ : ∃ L1, (made abc aXc rs1).length = L1 := ⟨_, rfl⟩
  have HL1 := Lib.hid hL1
  rw [hL1]
  clear hm1 ho1 hf1 hL1
  have kc := conv_const w1 w1.heap.size rfl (bv abc).toArray 3 3
  have kd := conv_const (w1.alloc (.cells (bv abc).toArray 5 (3, 4))) (w1.heap.size + 1) (by simp) (bv abc).toArray 3 3
  simp [bv, abc] at kc kd
  go_wp2_with fail
  clear kc kd
  refine (create5 ((w1.alloc (.cells (bv abc).toArray 5 (3, 4))).alloc (.cells (bv abc).toArray 5 (3, 4))) (some ⟨w1.heap.size, 0, none⟩) (some ⟨w1.heap.size + 1, 0, none⟩) 3 3 3 3 abc abc rfl rfl (by decide) (by decide) ((rd_const w1 _ rfl abc 5 _).later (S := []) ((Fr.refl [] _).alloc _) (by simp)) (rd_const _ _ (by simp) abc 5 _) (by decide) (by simp [maxLen])).mono ?_
  rintro e w2 ⟨rs2, g2, hm2, rfl, ho2, hf2⟩
  have e2 : made abc abc rs2 = [80, 65, 84, 67, 72, 69, 79, 70] := by rw [made_same abc abc rs2 hm2 same_abc, tl_abc]
  rw [e2] at ho2 ⊢
  have HR2 := Lib.hid ho2.rd
  have HF2 : Hid (Fr [] w1 w2) := Lib.hid ((((Fr.refl [] w1).alloc _).alloc _).tr hf2)
  clear hm2 ho2 hf2 e2
  have kc := conv_const w2 w2.heap.size rfl (bv abc).toArray 3 3
  simp [bv, abc] at kc
  go_wp2_with fail
  clear kc
  refine (applyM (w2.alloc (.cells (bv abc).toArray 5 (3, 4))) (some ⟨g1, 0, none⟩) (some ⟨w2.heap.size, 0, none⟩) L1 L1 3 3 abc aXc rs1 HM1.out HL1.out (HR1.out.later (S := []) (HF2.out.alloc _) (by simp)) (by have := HN1.out; have := HL1.out; omega) rfl (by decide) (by decide) (rd_const w2 _ rfl abc 5 _)).mono ?_
  rintro e w3 ⟨A3, c3, rfl, hr3, -, -, -, hf3⟩
  rw [show ((0, aXc) : Int × List UInt8).2.length = 3 from rfl]
  have HR3 := Lib.hid hr3
  have HF3 : Hid (Fr [] w2 w3) := Lib.hid (((Fr.refl [] w2).alloc _).tr hf3)
  clear hr3 hf3
  have kc := conv_const w3 w3.heap.size rfl (bv abc).toArray 3 3
  have kd := conv_const (w3.alloc (.cells (bv abc).toArray 5 (3, 4))) (w3.heap.size + 1) (by simp) (bv [97]).toArray 1 1
  simp [bv, abc] at kc kd
  go_wp2_with fail
  clear kc kd
  refine (create5 ((w3.alloc (.cells (bv abc).toArray 5 (3, 4))).alloc (.cells (bv [97]).toArray 5 (1, 2))) (some ⟨w3.heap.size, 0, none⟩) (some ⟨w3.heap.size + 1, 0, none⟩) 3 3 1 1 abc [97] rfl rfl (by decide) (by decide) ((rd_const w3 _ rfl abc 5 _).later (S := []) ((Fr.refl [] _).alloc _) (by simp)) (rd_const _ _ (by simp) [97] 5 _) (by decide) (by simp [maxLen])).mono ?_
  rintro e w4 ⟨rs4, g4, hm4, rfl, ho4, hf4⟩
  have e4 : made abc [97] rs4 = [80, 65, 84, 67, 72, 69, 79, 70, 0, 0, 1] := by rw [made_same abc [97] rs4 hm4 same_a, tl_a]
  rw [e4] at ho4 ⊢
  have HR4 := Lib.hid ho4.rd
  have HF4 : Hid (Fr [] w3 w4) := Lib.hid ((((Fr.refl [] w3).alloc _).alloc _).tr hf4)
  clear hm4 ho4 hf4 e4
  have k2 := run_str (P := Try.prog) (w := w4) 22 9 5 (cap := 8) Try.underlying22 Try.underlying5 Try.underlying9 (HR2.out.later (HF3.out.tr HF4.out) (by simp))
  have k3 := run_str (P := Try.prog) (w := w4) 22 9 5 (cap := c3) Try.underlying22 Try.underlying5 Try.underlying9 (HR3.out.later HF4.out (by simp))
  have k4 := run_str (P := Try.prog) (w := w4) 22 9 5 (cap := 11) Try.underlying22 Try.underlying5 Try.underlying9 HR4.out
  simp [aXc] at k2 k3 k4
  go_wp2
  go_ret
  exact ⟨rfl, ((HF1.out.tr HF2.out).tr HF3.out).tr HF4.out⟩

end Ips
end Go.Proofs.Ytchakjknndpmpaa
