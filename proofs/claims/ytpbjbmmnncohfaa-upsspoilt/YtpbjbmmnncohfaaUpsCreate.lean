/-
  Contract of ups.Create.
-/
import Derived.Test.YtpbjbmmnncohfaaUpsMake
namespace Go.Proofs.Ytpbjbmmnncohfaa
open Go.RowKit
namespace Ups

/-- What Create leaves. -/
def Created (w : World) (a b : List UInt8) (e : Ending) (w' : World) : Prop :=
  ∃ g, e = .returned (.tuple #[.slice (some ⟨g, 0, none⟩) (patch a b).length (patch a b).length, .int .i64 0]) ∧ w.heap.size ≤ g ∧ Blk w' g 5 (bv (patch a b)).toArray ∧ Fr [] w w'

theorem patch_length (a b : List UInt8) (ha : a.length ≤ 16777216) (hb : b.length ≤ 16777216) : (patch a b).length ≤ 117440540 := by
  have := ahead_length (meas a) (meas b) (dif a b) ha hb (by rw [dif_length]; omega)
  unfold patch
  rw [signed_length, ← ahead_body]
  omega

set_option maxRecDepth 100000 in
set_option maxHeartbeats 1000000 in
theorem create_any (w : World) (R S : Option Addr) (n c m d : Nat) (a b : List UInt8) (hn : a.length = n) (hm : b.length = m) (ha : Rd w R a) (hb : Rd w S b) (hn2 : n ≤ 16777216) (hm2 : m ≤ 16777216) :
    Calls Try.prog 8 #[.slice R n c, .slice S m d] w (Created w a b) := by
  have HA := Lib.hid ha
  have HB := Lib.hid hb
  have HN := Lib.hid hn
  have HM := Lib.hid hm
  have HQ : Hid (∀ W k, w.heap.size ≤ k → Blk W k 5 (bv (patch a b)).toArray → Fr [] w W → Created w a b (.returned (.tuple #[.slice (some ⟨k, 0, none⟩) (patch a b).length (patch a b).length, .int .i64 0])) W) := Lib.hid fun W k h1 h2 h3 => ⟨k, rfl, h1, h2, h3⟩
  have HE : Hid (signed (ahead (meas a) (meas b) (dif a b)) = patch a b) := Lib.hid rfl
  have HMA : Hid ((meas a).1 = n) := Lib.hid hn
  have HMB : Hid ((meas b).1 = m) := Lib.hid hm
  have HMx : Hid (max a.length b.length = max n m) := Lib.hid (by rw [hn, hm])
  have HD : Hid ((dif a b).length ≤ 16777216) := Lib.hid (by rw [dif_length, hn, hm]; omega)
  have e1 : ¬ (16777216 : Int) < n := by omega
  have e2 : ¬ (16777216 : Int) < m := by omega
  generalize Created w a b = Q at *
  clear ha hb hn hm
  go_enter Try.func8, Try.ntmps8
  go_wp2_with fail
  refine (measured_any w R n c a HN.out HA.out (by omega)).mono ?_
  rintro e w1 ⟨rfl, hf1⟩
  have HF1 := Lib.hid hf1
  clear hf1
  generalize meas a = X at *
  go_wp2_with fail
  refine (measured_any w1 S m d b HM.out (HB.out.later HF1.out (by simp)) (by omega)).mono ?_
  rintro e w2 ⟨rfl, hf2⟩
  have HF2 := Lib.hid (HF1.out.tr hf2)
  clear hf2
  generalize meas b = Y at *
  go_wp2_with fail
  refine (newPatch_any w2 X Y (by rw [HMA.out]; exact hn2) (by rw [HMB.out]; exact hm2)).mono ?_
  rintro e w3 ⟨p, g, rfl, hp3, hg3, hP3, hf3⟩
  rw [HMA.out, HMB.out] at hP3
  have HP3 := Lib.hid hP3
  have HF3 := Lib.hid (HF2.out.tr hf3)
  have hwp : w.heap.size ≤ p := Nat.le_trans HF2.out.size hp3
  have hwg : w.heap.size ≤ g := Nat.le_trans HF2.out.size hg3
  clear hp3 hg3 hP3 hf3
  go_wp2_with fail
  refine (differ_any w3 p g X Y R S n c m d (max n m) a b HMx.out HN.out HM.out HP3.out (HA.out.later HF3.out (by simp)) (fun W hf => HB.out.later (HF3.out.trans (S := []) hf (by simp; exact hwg)) (by simp)) (by omega)).mono ?_
  rintro e w4 ⟨rfl, hP4, hf4⟩
  have HP4 := Lib.hid hP4
  have HF4 : Hid (Fr [] w w4) := Lib.hid (HF3.out.trans hf4 (by simp; exact hwg))
  clear hP4 hf4
  go_wp2_with fail
  refine (bytes_any w4 p g X Y (dif a b) HP4.out (by rw [HMA.out]; exact hn2) (by rw [HMB.out]; exact hm2) HD.out).mono ?_
  rintro e w5 ⟨k, rfl, hk, hb5, hf5⟩
  rw [HE.out] at hb5 ⊢
  have HX := Lib.hid (HQ.out w5 k (Nat.le_trans HF4.out.size hk) hb5 (HF4.out.tr hf5))
  clear hk hb5 hf5
  go_wp2
  exact HX.out

end Ups
end Go.Proofs.Ytpbjbmmnncohfaa
