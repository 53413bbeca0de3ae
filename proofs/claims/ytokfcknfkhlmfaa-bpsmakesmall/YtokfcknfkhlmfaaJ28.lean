/-
  make of bytes with room behind them; numbers below a bound: plain laws, of no function of the program.
  Contract of bps' Apply, of a patch that was put together of actions.
-/
import Derived.Test.YtokfcknfkhlmfaaJ03
import Derived.Test.YtokfcknfkhlmfaaJ27
import Derived.Test.YtokfcknfkhlmfaaJ24
namespace Go.Proofs.Ytokfcknfkhlmfaa
open Go.RowKit
namespace Mk

/-- 'make([]byte, L, C)'. -/
theorem wpList_makeB {P : Program} (w : World) {ops : Array Oper} {rest : List Oper} {o : Oper} {a : Act} {Q : Exit → Act → World → Prop}
    (hg : o.guard = none) (l c : Operand) (t : TypeId) (hop : o.op = Op.makeSlice t l c)
    (base : Nat) (i : TypeInfo) (h1 : P.underlying t = some (.slice 5)) (h2 : P.info? 5 = some i) (h3 : i.zero = some (.int .u8 0)) (h4 : i.size = 1) (h5 : i.bytes = 1)
    (kl kc : IntKind) (L C : Nat) (hl : a.eval l = .int kl (L : Int)) (hc : a.eval c = .int kc (C : Int)) (hLC : L ≤ C) (hC : C ≤ 1000000000) (b4 : base ≤ w.heap.size)
    (hK : ∀ w', Own w' base (.slice (some ⟨w.heap.size, 0, none⟩) L C) (List.replicate L 0) → Fr [] w w' → wpList P ops Q rest (a.put o.dst (.slice (some ⟨w.heap.size, 0, none⟩) L C)) w') :
    wpList P ops Q (o :: rest) a w := by
  refine wpList_plain hg fun K hK' => ?_
  have hrun := run_make (P := P) w t 5 i (.int .u8 0) h1 h2 h3 kl kc (L : Int) (C : Int) (by omega) (by omega) (by rw [h5]; omega) (by omega)
  simp only [Int.toNat_natCast, h4, Nat.mul_one] at hrun
  unfold Oper.wp
  simp [execOp, hop, hl, hc, hrun, Result.andThen]
  refine hK' _ _ (hK _ ?_ ((Fr.refl [] w).alloc _))
  refine ⟨by simp [bv_length], .inr ⟨w.heap.size, C, madeCells (Value.int .u8 0).cells C, by simp, b4, heap_alloc_new w _, by simpa using hLC, by unfold maxLen; omega, by simp [size_madeCells], ?_⟩⟩
  rw [Nat.mul_one, show (Value.int .u8 0).cells = #[Value.int .u8 0] from rfl, Ups.made_zero]
  simp only
  rw [← bv_take, List.length_replicate, List.take_replicate, Nat.min_eq_left hLC]

theorem and24 (n : Int) : 0 ≤ bits .and .i64 n 16777215 ∧ bits .and .i64 n 16777215 ≤ 16777215 := by
  have h : (BitVec.ofInt 64 16777215).toNat = 2 ^ 24 - 1 := by decide
  have key : (BitVec.ofInt 64 n &&& BitVec.ofInt 64 16777215).toNat = (n % ((2 ^ 64 : Nat) : Int)).toNat % 2 ^ 24 := by
    rw [BitVec.toNat_and, BitVec.toNat_ofInt, h, Nat.and_two_pow_sub_one_eq_mod]
  have e : bits .and .i64 n 16777215 = IntKind.i64.wrap ((BitVec.ofInt 64 n &&& BitVec.ofInt 64 16777215).toNat : Nat) := rfl
  rw [e, key, IntKind.wrap_i64]
  omega
/-- A number below k. -/
theorem below_of (z k : Int) (hk : 0 < k) : ∃ p : Nat, (bits .and .i64 z 16777215).tmod k = (p : Int) ∧ (p : Int) < k := by
  have h := and24 z
  rw [Int.tmod_eq_emod_of_nonneg h.1]
  have h1 := Int.emod_nonneg (bits .and .i64 z 16777215) (show k ≠ 0 by omega)
  have h2 := Int.emod_lt_of_pos (bits .and .i64 z 16777215) hk
  exact ⟨((bits .and .i64 z 16777215) % k).toNat, by omega, by omega⟩

end Mk
end Go.Proofs.Ytokfcknfkhlmfaa

namespace Go.Proofs.Ytokfcknfkhlmfaa
open Go.RowKit
namespace Bps
open Acts (ActRd)
open Ups (sum)

/-- What Apply leaves. -/
def AppliedB (w : World) (r : Int × List UInt8) (e : Ending) (w' : World) : Prop :=
  ∃ A c, e = .returned (.tuple #[.slice A r.2.length c, .int .i64 r.1]) ∧ Own w' w.heap.size (.slice A r.2.length c) r.2 ∧ Fr [] w w'

theorem applied_fail (w W : World) (x : Int) (h : Fr [] w W) : AppliedB w (x, []) (.returned (.tuple #[.slice none 0 0, .int .i64 x])) W := ⟨none, 0, rfl, Own.none_ _ _, h⟩

theorem applyR_sum {i : Nat} {s1 s2 : BitVec 32} {L : List Act} {x : List UInt8} (h : ¬ (x.length = i ∧ sum x = s1)) : applyR i s1 s2 L x = (4, []) := by
  unfold applyR; rw [if_neg h]
theorem applyR_none {i : Nat} {s1 s2 : BitVec 32} {L : List Act} {x : List UInt8} (h : x.length = i ∧ sum x = s1) (hm : makeA L x = none) : applyR i s1 s2 L x = (5, []) := by
  unfold applyR; rw [if_pos h, hm]
theorem applyR_bad {i : Nat} {s1 s2 : BitVec 32} {L : List Act} {x out : List UInt8} (h : x.length = i ∧ sum x = s1) (hm : makeA L x = some out) (hs : sum out ≠ s2) : applyR i s1 s2 L x = (5, []) := by
  unfold applyR; rw [if_pos h, hm]; simp only; rw [if_neg hs]
theorem applyR_ok {i : Nat} {s1 s2 : BitVec 32} {L : List Act} {x out : List UInt8} (h : x.length = i ∧ sum x = s1) (hm : makeA L x = some out) (hs : sum out = s2) : applyR i s1 s2 L x = (0, out) := by
  unfold applyR; rw [if_pos h, hm]; simp only; rw [if_pos hs]

set_option maxRecDepth 100000 in
set_option maxHeartbeats 2000000 in
theorem apply_sum (w : World) (R S : Option Addr) (n c m d : Nat) (P : Pat) (x : List UInt8) (hP : Fine P) (hn : P.whole.length = n) (hr : Rd w R P.whole) (hc : n ≤ c) (hc2 : c ≤ maxLen) (hm : x.length = m) (hx : Rd w S x) (hmx : m ≤ 16777216) (hbad : ¬ (x.length = P.i ∧ sum x = P.s1)) :
    Calls Try.prog 10 #[.slice R n c, .slice S m d] w (AppliedB w (4, [])) := by
  have HX := Lib.hid hx
  have HM := Lib.hid hm
  have HPa := Lib.hid (parse_made w R n c P hP hn hr hc hc2)
  have e1 : ¬ (16777216 : Int) < m := by omega
  have HQ : Hid (∀ W, Fr [] w W → AppliedB w (4, []) (.returned (.tuple #[.slice none 0 0, .int .i64 4])) W) := Lib.hid fun W h => applied_fail w W 4 h
  generalize AppliedB w (4, []) = Q at *
  rw [hm] at hbad
  have Hbad := Lib.hid hbad
  clear hr hx hn hm hP hbad
  unfold Parsed at HPa
  obtain ⟨i, oo, s1, s2, mt, L⟩ := P
  simp only at HPa Hbad
  go_enter Try.func10, Try.ntmps10
  go_wp2_with fail
  refine HPa.out.mono ?_
  rintro e w1 ⟨gm, AL, cL, rfl, -, -, hf1⟩
  have HF1 := Lib.hid (hf1.alloc (.cells #[.int .i64 (i : Int), .int .i64 (oo : Int), .int .u32 (Crc.u s1), .int .u32 (Crc.u s2), .slice (some ⟨gm, 0, none⟩) mt.length mt.length, .slice AL L.length cL] 70))
  have hb1 := Blk.fresh w1 70 #[.int .i64 (i : Int), .int .i64 (oo : Int), .int .u32 (Crc.u s1), .int .u32 (Crc.u s2), .slice (some ⟨gm, 0, none⟩) mt.length mt.length, .slice AL L.length cL]
  obtain ⟨bq, hbq⟩ : ∃ bq, w1.heap.size = bq := ⟨_, rfl⟩
  rw [hbq] at hb1
  have HB1 := Lib.hid hb1
  clear hf1 HPa hb1
  go_upto_region 6 with fail
  generalize w1.alloc _ = w2 at *
  obtain ⟨y0, y1, y2, y3, y4, y5⟩ := blk6 HB1.out
  by_cases hlen : m = i
  · subst hlen
    have hsm : ¬ sum x = s1 := fun h => Hbad.out ⟨rfl, h⟩
    unfold sum at hsm
    obtain ⟨X, hX⟩ : ∃ X, Crc.next 0#32 x = X := ⟨_, rfl⟩
    have HXe := Lib.hid hX
    rw [hX] at hsm
    have hne : (Crc.u X != Crc.u s1) = true := by simp; exact fun h => hsm (Crc.u_inj h)
    clear hX
    go_region_law (go_simp; go_at_call 27; (with_reducible refine (Crc.sum_any _ S m d x HM.out (HX.out.later (HF1.out.drew) (by simp)) (by omega)).mono ?_); rintro e w3 ⟨rfl, hf3⟩; rw [HXe.out]; have hb3 := HB1.out.fr ((Fr.refl [] w2).drew.tr hf3) (by simp); obtain ⟨x0, x1, x2, x3, x4, x5⟩ := blk6 hb3; have HF3 : Hid (Fr [] w w3) := Lib.hid (HF1.out.drew.tr hf3); clear hf3 hb3)
    all_goals
      go_wp2
      exact HQ.out _ HF3.out
  · have hne : ((m : Int) == (i : Int)) = false := by simp; omega
    have hne2 : ¬ (m : Int) = (i : Int) := by omega
    go_quiet (fail)
    go_wp2
    exact HQ.out _ (HF1.out.drewN _)

end Bps
end Go.Proofs.Ytokfcknfkhlmfaa
