/-
  Contract of bps' Apply, of a patch that was put together of actions.
-/
import Derived.Test.YtokfcknfkhlmfaaBpsParse2
import Derived.Test.YtokfcknfkhlmfaaBpsDeeds
import Derived.Test.YtokfcknfkhlmfaaMakeRoom
namespace Go.Proofs.Ytokfcknfkhlmfaa
open Go.RowKit
namespace Bps
open Acts (ActRd)
open Ups (sum)

/-- What Apply leaves. -/
def AppliedB (w : World) (r : Int × List UInt8) (e : Ending) (w' : World) : Prop :=
  ∃ A c, e = .returned (.tuple #[.slice A r.2.length c, .int .i64 r.1]) ∧ Own w' w.heap.size (.slice A r.2.length c) r.2 ∧ Fr [] w w'

theorem applied_fail (w W : World) (x : Int) (h : Fr [] w W) : AppliedB w (x, []) (.returned (.tuple #[.slice none 0 0, .int .i64 x])) W := ⟨none, 0, rfl, Own.none_ _ _, h⟩

theorem applyR_sum {i : Nat} {s1 s2 : BitVec 32} {L : List Act} {x : List UInt8} (h : ¬ (x.length = i ∧ sum x = s1)) : applyR i s1 s2 L x = (4, []) := by
  unfold applyR; rw [if_neg h]
theorem applyR_none {i : Nat} {s1 s2 : BitVec 32} {L : List Act} {x : List UInt8} (h : x.length = i ∧ sum x = s1) (hm : makeA L x = none) : applyR i s1 s2 L x = (5, []) := by
  unfold applyR; rw [if_pos h, hm]
theorem applyR_bad {i : Nat} {s1 s2 : BitVec 32} {L : List Act} {x out : List UInt8} (h : x.length = i ∧ sum x = s1) (hm : makeA L x = some out) (hs : sum out ≠ s2) : applyR i s1 s2 L x = (5, []) := by
  unfold applyR; rw [if_pos h, hm]; simp only; rw [if_neg hs]
theorem applyR_ok {i : Nat} {s1 s2 : BitVec 32} {L : List Act} {x out : List UInt8} (h : x.length = i ∧ sum x = s1) (hm : makeA L x = some out) (hs : sum out = s2) : applyR i s1 s2 L x = (0, out) := by
  unfold applyR; rw [if_pos h, hm]; simp only; rw [if_pos hs]

set_option maxRecDepth 100000 in
set_option maxHeartbeats 2000000 in
theorem apply_sum (w : World) (R S : Option Addr) (n c m d : Nat) (P : Pat) (x : List UInt8) (hP : Fine P) (hn : P.whole.length = n) (hr : Rd w R P.whole) (hc : n ≤ c) (hc2 : c ≤ maxLen) (hm : x.length = m) (hx : Rd w S x) (hmx : m ≤ 16777216) (hbad : ¬ (x.length = P.i ∧ sum x = P.s1)) :
    Calls Try.prog 10 #[.slice R n c, .slice S m d] w (AppliedB w (4, [])) := by
  have HX := Lib.hid hx
  have HM := Lib.hid hm
  have HPa := Lib.hid (parse_made w R n c P hP hn hr hc hc2)
  have e1 : ¬ (16777216 : Int) < m := by omega
  have HQ : Hid (∀ W, Fr [] w W → AppliedB w (4, []) (.returned (.tuple #[.slice none 0 0, .int .i64 4])) W) := Lib.hid fun W h => applied_fail w W 4 h
  generalize AppliedB w (4, []) = Q at *
  rw [hm] at hbad
  have Hbad := Lib.hid hbad
  clear hr hx hn hm hP hbad
  unfold Parsed at HPa
  obtain ⟨i, oo, s1, s2, mt, L⟩ := P
  simp only at HPa Hbad
  go_enter Try.func10, Try.ntmps10
  go_wp2_with fail
  refine HPa.out.mono ?_
  rintro e w1 ⟨gm, AL, cL, rfl, -, -, hf1⟩
  have HF1 := Lib.hid (hf1.alloc (.cells #[.int .i64 (i : Int), .int .i64 (oo : Int), .int .u32 (Crc.u s1), .int .u32 (Crc.u s2), .slice (some ⟨gm, 0, none⟩) mt.length mt.length, .slice AL L.length cL] 70))
  have hb1 := Blk.fresh w1 70 #[.int .i64 (i : Int), .int .i64 (oo : Int), .int .u32 (Crc.u s1), .int .u32 (Crc.u s2), .slice (some ⟨gm, 0, none⟩) mt.length mt.length, .slice AL L.length cL]
  obtain ⟨bq, hbq⟩ : ∃ bq, w1.heap.size = bq := ⟨_, rfl⟩
  rw [hbq] at hb1
  have HB1 := Lib.hid hb1
  clear hf1 HPa hb1
  go_upto_region 6 with fail
  generalize w1.alloc _ = w2 at *
  obtain ⟨y0, y1, y2, y3, y4, y5⟩ := blk6 HB1.out
  by_cases hlen : m = i
  · subst hlen
    have hsm : ¬ sum x = s1 := fun h => Hbad.out ⟨rfl, h⟩
    unfold sum at hsm
    obtain ⟨X, hX⟩ : ∃ X, Crc.next 0#32 x = X := ⟨_, rfl⟩
    have HXe := Lib.hid hX
    rw [hX] at hsm
    have hne : (Crc.u X != Crc.u s1) = true := by simp; exact fun h => hsm (Crc.u_inj h)
    clear hX
    go_region_law (go_simp; go_at_call 27; (with_reducible refine (Crc.sum_any _ S m d x HM.out (HX.out.later (HF1.out.drew) (by simp)) (by omega)).mono ?_); rintro e w3 ⟨rfl, hf3⟩; rw [HXe.out]; have hb3 := HB1.out.fr ((Fr.refl [] w2).drew.tr hf3) (by simp); obtain ⟨x0, x1, x2, x3, x4, x5⟩ := blk6 hb3; have HF3 : Hid (Fr [] w w3) := Lib.hid (HF1.out.drew.tr hf3); clear hf3 hb3)
    all_goals
      go_wp2
      exact HQ.out _ HF3.out
  · have hne : ((m : Int) == (i : Int)) = false := by simp; omega
    have hne2 : ¬ (m : Int) = (i : Int) := by omega
    go_quiet (fail)
    go_wp2
    exact HQ.out _ (HF1.out.drewN _)

end Bps
end Go.Proofs.Ytokfcknfkhlmfaa
