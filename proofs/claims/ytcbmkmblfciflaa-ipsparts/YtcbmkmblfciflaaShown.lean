/-
  picklocklaw04.shown returns true, and turns nothing that was there.
-/
import Derived.Test.YtcbmkmblfciflaaIpsApply
namespace Go.Proofs.Ytcbmkmblfciflaa
open Go.RowKit
namespace Ips

def p1 : List UInt8 := [80, 65, 84, 67, 72, 0, 0, 1, 0, 2, 65, 66, 69, 79, 70]
def p2 : List UInt8 := [80, 65, 84, 67, 72, 0, 0, 4, 0, 0, 0, 3, 90, 69, 79, 70, 0, 0, 6]
def p3 : List UInt8 := [80, 65, 84, 67, 72, 0, 0, 1]
def p4 : List UInt8 := [80, 65, 84, 67, 72, 69, 79, 70]
theorem a1 : applied p1 [120, 121, 122] = (0, [120, 65, 66]) := by decide +kernel
theorem a2 : applied p2 [120, 121, 122] = (0, [120, 121, 122, 0, 90, 90]) := by decide +kernel
theorem a3 : applied p3 [] = (2, []) := by decide +kernel
theorem a4 : parse p4 = (0, [], -1) := by rfl

theorem applyZ (w : World) (A A' : Option Addr) (n c m c' : Nat) (l x : List UInt8) (O : Int × List UInt8) (hO : applied l x = O) (hn : l.length = n) (h : Rd w A l) (hm : x.length = m) (hx : m ≤ 1000000000) (hX : Rd w A' x) :
    Calls Try.prog 13 #[.slice A n c, .slice A' m c'] w (Applied w O) := by
  subst hO
  exact apply_any w A A' n c m c' l x hn h hm hx hX
theorem parseZ (w : World) (A : Option Addr) (n c : Nat) (l : List UInt8) (O : Int × List Rec × Int) (hO : parse l = O) (hn : l.length = n) (h : Rd w A l) :
    Calls Try.prog 9 #[.slice A n c] w (Parsed w O) := by
  subst hO
  exact parse_any w A n c l hn h

set_option maxRecDepth 100000 in
set_option maxHeartbeats 2000000 in
theorem shown_any (w : World) : Calls Try.prog 8 #[] w fun e w' => e = .returned (.bool true) ∧ Fr [] w w' := by
  have kc := conv_const w w.heap.size rfl (bv p1).toArray 15 15
  have kd := conv_const (w.alloc (.cells (bv p1).toArray 5 (15, 16))) (w.heap.size + 1) (by simp) (bv [120, 121, 122]).toArray 3 3
  simp [bv, p1] at kc kd
  go_enter Try.func8, Try.ntmps8
  go_wp2_with fail
  clear kc kd
  refine (applyZ ((w.alloc (.cells (bv p1).toArray 5 (15, 16))).alloc (.cells (bv [120, 121, 122]).toArray 5 (3, 4))) (some ⟨w.heap.size, 0, none⟩) (some ⟨w.heap.size + 1, 0, none⟩) 15 15 3 3 p1 [120, 121, 122] _ a1 rfl ((rd_const w _ rfl p1 5 _).later (S := []) ((Fr.refl [] _).alloc _) (by simp)) rfl (by decide) (rd_const _ _ (by simp) [120, 121, 122] 5 _)).mono ?_
  rintro e w1 ⟨A1, c1, rfl, hr1, -, -, -, hf1⟩
  have HR1 := Lib.hid hr1
  have HF1 : Hid (Fr [] w w1) := Lib.hid ((((Fr.refl [] w).alloc _).alloc _).tr hf1)
  clear hr1 hf1
  have kc := conv_const w1 w1.heap.size rfl (bv p2).toArray 19 19
  have kd := conv_const (w1.alloc (.cells (bv p2).toArray 5 (19, 20))) (w1.heap.size + 1) (by simp) (bv [120, 121, 122]).toArray 3 3
  simp [bv, p2] at kc kd
  go_wp2_with fail
  clear kc kd
  refine (applyZ ((w1.alloc (.cells (bv p2).toArray 5 (19, 20))).alloc (.cells (bv [120, 121, 122]).toArray 5 (3, 4))) (some ⟨w1.heap.size, 0, none⟩) (some ⟨w1.heap.size + 1, 0, none⟩) 19 19 3 3 p2 [120, 121, 122] _ a2 rfl ((rd_const w1 _ rfl p2 5 _).later (S := []) ((Fr.refl [] _).alloc _) (by simp)) rfl (by decide) (rd_const _ _ (by simp) [120, 121, 122] 5 _)).mono ?_
  rintro e w2 ⟨A2, c2, rfl, hr2, -, -, -, hf2⟩
  have HR2 := Lib.hid hr2
  have HF2 : Hid (Fr [] w1 w2) := Lib.hid ((((Fr.refl [] w1).alloc _).alloc _).tr hf2)
  clear hr2 hf2
  have kc := conv_const w2 w2.heap.size rfl (bv p3).toArray 8 8
  simp [bv, p3] at kc
  go_wp2_with fail
  clear kc
  refine (applyZ (w2.alloc (.cells (bv p3).toArray 5 (8, 9))) (some ⟨w2.heap.size, 0, none⟩) none 8 8 0 0 p3 [] _ a3 rfl (rd_const w2 _ rfl p3 5 _) rfl (by decide) (rd_nil _)).mono ?_
  rintro e w3 ⟨A3, c3, rfl, -, -, -, -, hf3⟩
  have HF3 : Hid (Fr [] w2 w3) := Lib.hid (((Fr.refl [] w2).alloc _).tr hf3)
  clear hf3
  have kc := conv_const w3 w3.heap.size rfl (bv p4).toArray 8 8
  simp [bv, p4] at kc
  go_wp2_with fail
  clear kc
  refine (parseZ (w3.alloc (.cells (bv p4).toArray 5 (8, 9))) (some ⟨w3.heap.size, 0, none⟩) 8 8 p4 _ a4 rfl (rd_const w3 _ rfl p4 5 _)).mono ?_
  rintro e w4 ⟨A4, c4, rfl, -, hf4⟩
  have HF4 : Hid (Fr [] w3 w4) := Lib.hid (((Fr.refl [] w3).alloc _).tr hf4)
  clear hf4
  have k1 := run_str (P := Try.prog) (w := w4) 22 9 5 (cap := c1) Try.underlying22 Try.underlying5 Try.underlying9 (HR1.out.later ((HF2.out.tr HF3.out).tr HF4.out) (by simp))
  have k2 := run_str (P := Try.prog) (w := w4) 22 9 5 (cap := c2) Try.underlying22 Try.underlying5 Try.underlying9 (HR2.out.later (HF3.out.tr HF4.out) (by simp))
  simp at k1 k2
  go_wp2
  go_ret
  exact ⟨rfl, ((HF1.out.tr HF2.out).tr HF3.out).tr HF4.out⟩

end Ips
end Go.Proofs.Ytcbmkmblfciflaa
