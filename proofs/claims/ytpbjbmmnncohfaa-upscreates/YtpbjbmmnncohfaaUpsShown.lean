/-
  picklocklaw06.shown returns true, and turns nothing that was there.
-/
import Derived.Test.YtpbjbmmnncohfaaUpsCreate
import Derived.Test.YtpbjbmmnncohfaaUpsApply
namespace Go.Proofs.Ytpbjbmmnncohfaa
open Go.RowKit
namespace Ups

theorem dforth (a b : List UInt8) : madeL (dif a b) a b.length = b ∧ ¬ Spills (dif a b) a b.length := by
  constructor
  · apply List.ext_getElem?
    intro i
    by_cases h : i < b.length
    · rw [madeL_get _ _ _ _ h, dif_at, xor_cancel, at0_lt b i h, List.getElem?_eq_getElem h]
    · rw [List.getElem?_eq_none (by rw [madeL_length]; omega), List.getElem?_eq_none (by omega)]
  · rintro ⟨i, h1, _, h3⟩
    rw [dif_at, xor_cancel, at0_ge b i h1] at h3
    exact h3 rfl
theorem dback (a b : List UInt8) : madeL (dif a b) b a.length = a ∧ ¬ Spills (dif a b) b a.length := by
  constructor
  · apply List.ext_getElem?
    intro i
    by_cases h : i < a.length
    · rw [madeL_get _ _ _ _ h, dif_at, xor_cancel', at0_lt a i h, List.getElem?_eq_getElem h]
    · rw [List.getElem?_eq_none (by rw [madeL_length]; omega), List.getElem?_eq_none (by omega)]
  · rintro ⟨i, h1, _, h3⟩
    rw [dif_at, xor_cancel', at0_ge a i h1] at h3
    exact h3 rfl

/-- What Apply leaves where bytes are made. -/
def Gives (w : World) (l : List UInt8) (e : Ending) (w' : World) : Prop :=
  ∃ g, e = .returned (.tuple #[.slice (some ⟨g, 0, none⟩) l.length l.length, .int .i64 0]) ∧ Blk w' g 5 (bv l).toArray ∧ Fr [] w w'

/-- The input is told: the output is made. -/
theorem apply_in (w : World) (A R : Option Addr) (n c m d : Nat) (a b : List UInt8) (hn : (patch a b).length = n) (hr : Rd w A (patch a b)) (hc : n ≤ c) (hc2 : c ≤ maxLen) (hN : n ≤ 16777216) (hb : b.length ≤ 16777216) (hm : a.length = m) (hx : Rd w R a) (hm2 : m ≤ 16777216) :
    Calls Try.prog 11 #[.slice A n c, .slice R m d] w (Gives w b) := by
  refine (apply_made w A R n c m d a b a hn hr hc hc2 hN (by omega) hb hm hx hm2).mono ?_
  rintro e w' ⟨h1, -, -⟩
  obtain ⟨hf, h2⟩ := h1 rfl
  have hF := dforth a b
  rcases h2 with ⟨-, h2⟩ | ⟨g, rfl, h3, -, -⟩
  · exact absurd ⟨congrArg sum hF.1, hF.2⟩ h2
  · have e1 : madeL (dif a b) a (meas b).1 = b := hF.1
    rw [e1] at h3
    exact ⟨g, rfl, h3, hf⟩
/-- The output is told, which is not taken for the input: the input is made. -/
theorem apply_out (w : World) (A R : Option Addr) (n c m d : Nat) (a b : List UInt8) (hn : (patch a b).length = n) (hr : Rd w A (patch a b)) (hc : n ≤ c) (hc2 : c ≤ maxLen) (hN : n ≤ 16777216) (ha : a.length ≤ 16777216) (hm : b.length = m) (hx : Rd w R b) (hm2 : m ≤ 16777216) (hne : meas b ≠ meas a) :
    Calls Try.prog 11 #[.slice A n c, .slice R m d] w (Gives w a) := by
  refine (apply_made w A R n c m d a b b hn hr hc hc2 hN ha (by omega) hm hx hm2).mono ?_
  rintro e w' ⟨-, h1, -⟩
  obtain ⟨hf, h2⟩ := h1 hne rfl
  have hF := dback a b
  rcases h2 with ⟨-, h2⟩ | ⟨g, rfl, h3, -, -⟩
  · exact absurd ⟨congrArg sum hF.1, hF.2⟩ h2
  · have e1 : madeL (dif a b) b (meas a).1 = a := hF.1
    rw [e1] at h3
    exact ⟨g, rfl, h3, hf⟩

def ab : List UInt8 := [97, 98]
def aX : List UInt8 := [97, 88]
def bb : List UInt8 := [98, 98]
theorem sum1 : meas aX ≠ meas ab := by decide +kernel
theorem sum2 : meas bb ≠ meas ab := by decide +kernel
theorem sum3 : meas bb ≠ meas aX := by decide +kernel
theorem dif_ab : dif ab aX = [0, 58] := by decide +kernel
theorem hunks_ab : hunks ab aX = [⟨1, [58]⟩] := by
  unfold hunks
  rw [dif_ab, hk_zero, hk_more _ _ _ (by decide), lead_cons _ _ (by decide), lead_nil]
  simp [hk_nil]
theorem patch_ab : (patch ab aX).length = 21 ∧ (patch ab aX).take 9 = [85, 80, 83, 49, 130, 130, 129, 58, 0] := by
  have e : patch ab aX = [85, 80, 83, 49, 130, 130, 129, 58, 0] ++ (le4 (sum ab) ++ (le4 (sum aX) ++ le4 (sum (body ab aX)))) := by
    rw [patch_parts]
    unfold inner
    rw [hunks_ab, show ab.length = 2 from rfl, show aX.length = 2 from rfl, Var.putV_last (by decide)]
    simp [hkB, Var.putV_last]
  rw [e]
  exact ⟨by simp [le4_length], rfl⟩

set_option maxRecDepth 100000 in
set_option maxHeartbeats 2000000 in
theorem shown6 (w : World) : Calls Try.prog 7 #[] w fun e w' => e = .returned (.bool true) ∧ Fr [] w w' := by
  have kc := conv_const w w.heap.size rfl (bv ab).toArray 2 2
  have kd := conv_const (w.alloc (.cells (bv ab).toArray 5 (2, 3))) (w.heap.size + 1) (by simp) (bv aX).toArray 2 2
  simp [bv, ab, aX] at kc kd
  have HP := Lib.hid patch_ab
  go_enter Try.func7, Try.ntmps7
  go_wp2_with fail
  clear kc kd
  refine (create_any ((w.alloc (.cells (bv ab).toArray 5 (2, 3))).alloc (.cells (bv aX).toArray 5 (2, 3))) (some ⟨w.heap.size, 0, none⟩) (some ⟨w.heap.size + 1, 0, none⟩) 2 2 2 2 ab aX rfl rfl ((rd_const w _ rfl ab 5 _).later (S := []) ((Fr.refl [] _).alloc _) (by simp)) (rd_const _ _ (by simp) aX 5 _) (by decide) (by decide)).mono ?_
  rintro e w1 ⟨g1, rfl, hg1, hb1, hf1⟩
  rw [HP.out.1]
  have HR1 := Lib.hid (rd_blk hb1)
  have HF1 : Hid (Fr [] w w1) := Lib.hid ((((Fr.refl [] w).alloc _).alloc _).tr hf1)
  clear hg1 hb1 hf1
  have kc := conv_const w1 w1.heap.size rfl (bv ab).toArray 2 2
  simp [bv, ab] at kc
  go_wp2_with fail
  clear kc
  refine (apply_in (w1.alloc (.cells (bv ab).toArray 5 (2, 3))) (some ⟨g1, 0, none⟩) (some ⟨w1.heap.size, 0, none⟩) 21 21 2 2 ab aX HP.out.1 (HR1.out.later (S := []) ((Fr.refl [] w1).alloc _) (by simp)) (Nat.le_refl _) (by decide) (by decide) (by decide) rfl (rd_const w1 _ rfl ab 5 _) (by decide)).mono ?_
  rintro e w2 ⟨g2, rfl, hb2, hf2⟩
  rw [show aX.length = 2 from rfl]
  have HR2 := Lib.hid (rd_blk hb2)
  have HF2 : Hid (Fr [] w1 w2) := Lib.hid (((Fr.refl [] w1).alloc _).tr hf2)
  clear hb2 hf2
  have kc := conv_const w2 w2.heap.size rfl (bv aX).toArray 2 2
  simp [bv, aX] at kc
  go_wp2_with fail
  clear kc
  refine (apply_out (w2.alloc (.cells (bv aX).toArray 5 (2, 3))) (some ⟨g1, 0, none⟩) (some ⟨w2.heap.size, 0, none⟩) 21 21 2 2 ab aX HP.out.1 (HR1.out.later (S := []) (HF2.out.alloc _) (by simp)) (Nat.le_refl _) (by decide) (by decide) (by decide) rfl (rd_const w2 _ rfl aX 5 _) (by decide) sum1).mono ?_
  rintro e w3 ⟨g3, rfl, hb3, hf3⟩
  rw [show ab.length = 2 from rfl]
  have HR3 := Lib.hid (rd_blk hb3)
  have HF3 : Hid (Fr [] w2 w3) := Lib.hid (((Fr.refl [] w2).alloc _).tr hf3)
  clear hb3 hf3
  have kc := conv_const w3 w3.heap.size rfl (bv bb).toArray 2 2
  simp [bv, bb] at kc
  go_wp2_with fail
  clear kc
  refine (apply_made (w3.alloc (.cells (bv bb).toArray 5 (2, 3))) (some ⟨g1, 0, none⟩) (some ⟨w3.heap.size, 0, none⟩) 21 21 2 2 ab aX bb HP.out.1 (HR1.out.later (S := []) ((HF2.out.tr HF3.out).alloc _) (by simp)) (Nat.le_refl _) (by decide) (by decide) (by decide) (by decide) rfl (rd_const w3 _ rfl bb 5 _) (by decide)).mono ?_
  rintro e w4 ⟨-, -, h4⟩
  obtain ⟨rfl, hf4⟩ := h4 sum2 sum3
  have HF4 : Hid (Fr [] w3 w4) := Lib.hid (((Fr.refl [] w3).alloc _).tr hf4)
  clear hf4
  have k1 := run_str (P := Try.prog) (w := w4) 22 9 5 (cap := 21) Try.underlying22 Try.underlying5 Try.underlying9 (rd_take (HR1.out.later ((HF2.out.tr HF3.out).tr HF4.out) (by simp)) 9)
  rw [HP.out.2] at k1
  have k2 := run_str (P := Try.prog) (w := w4) 22 9 5 (cap := 2) Try.underlying22 Try.underlying5 Try.underlying9 (HR2.out.later (HF3.out.tr HF4.out) (by simp))
  have k3 := run_str (P := Try.prog) (w := w4) 22 9 5 (cap := 2) Try.underlying22 Try.underlying5 Try.underlying9 (HR3.out.later HF4.out (by simp))
  simp [ab, aX] at k1 k2 k3
  go_wp2
  go_ret
  exact ⟨rfl, ((HF1.out.tr HF2.out).tr HF3.out).tr HF4.out⟩

end Ups
end Go.Proofs.Ytpbjbmmnncohfaa
