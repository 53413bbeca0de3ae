/-
  picklocklaw14.same returns true of two machines with one state. Condition: both have it.
-/
import Derived.Test.YtlnpadekgakghaaDoorMkMade
namespace Go.Proofs.YtlnpadekgakghaaDoor
open Go.RowKit
namespace Ms
set_option linter.unusedVariables false
open Al (byte)

theorem guardP (op : BinOp) (x y : Operand) (xs ys : Array Value) (w : World) : (eqGuard op 57 x y (.agg xs) (.agg ys)).run Tryd.prog w = .ok () w :=
  run_eqGuard_agg w op 57 x y xs ys (by kernel_rfl)
theorem eqP (a1 b1 a2 b2 : Int) (w : World) : (Op.equalIn 10000 57 (.agg #[.int .u16 a1, .int .u8 a2]) (.agg #[.int .u16 b1, .int .u8 b2])).run Tryd.prog w = .ok (a1 == b1 && a2 == b2) w := by
  have u64 := Tryd.underlying22
  have u32 := Tryd.underlying5
  have a64 := Tryd.isAgg22
  have a32 := Tryd.isAgg5
  have z64 := Tryd.sizeOf22
  have z32 := Tryd.sizeOf5
  rw [show (10000 : Nat) = 9999 + 1 from rfl, run_equalIn_struct w 9999 57 _ _ (by kernel_rfl) (by kernel_rfl)]
  simp only [Program.fieldsOf, Tryd.underlying57, Op.eqFields]
  go_simp
  by_cases h0 : a1 = b1 <;> by_cases h1 : a2 = b2 <;> simp [h0, h1]
theorem eqP_same (a b : Int) (w : World) : (Op.equalIn 10000 57 (.agg #[.int .u16 a, .int .u8 b]) (.agg #[.int .u16 a, .int .u8 b])).run Tryd.prog w = .ok true w := by
  rw [eqP]; simp

set_option maxRecDepth 100000 in
set_option maxHeartbeats 4000000 in
theorem same_any (w : World) (B p f q : Nat) (v u : Value) (S : S14) (n : Nat) (H : Both w B p f q v u S) (hO : Ok n S) (hn : n < 1000000000) :
    Calls Tryd.prog 14 #[.pointer (some ⟨p, 0, none⟩), .pointer (some ⟨f, 0, none⟩), .pointer (some ⟨q, 0, none⟩)] w fun e w' => e = .returned (.bool true) ∧ ∃ k, w' = w.drewN k := by
  obtain ⟨a, x, y, s, pp, pc, h, ⟨m, l⟩⟩ := S
  have HBo := Lib.hid H
  obtain ⟨c0, c1, c2, c3, c4, c5, c6⟩ := ProgAt.regs H.prog
  obtain ⟨d0, d1, d2, d3, d4, d5, d6⟩ := regs H.ref
  obtain ⟨A1, k1, rfl, hr1, hk1, hk1m, -⟩ := H.prog.row.slice
  obtain ⟨A2, k2, rfl, hr2, hk2, hk2m, -⟩ := H.ref.2.slice
  have cw : w.cell? ⟨f, 65536, none⟩ = some (.slice A1 l.length k1) := H.prog.flat.cell 65536 (by omega)
  have dw : w.cell? ⟨q, 65543, none⟩ = some (.slice A2 l.length k2) := H.ref.cell 65543 (by omega)
  simp only at c0 c1 c2 c3 c4 c5 c6
  have hl : l.length < 1000000000 := Nat.lt_of_le_of_lt hO.b.2.2 hn
  have HR1 := Lib.hid hr1
  have HR2 := Lib.hid hr2
  obtain ⟨N, hN⟩ : ∃ N, l.length = N := ⟨_, rfl⟩
  rw [hN] at cw dw hk1 hk2 hl
  have HN := Lib.hid hN
  have hK1 : k1 ≤ 9223372036854775807 := by unfold maxLen at hk1m; omega
  have hK2 : k2 ≤ 9223372036854775807 := by unfold maxLen at hk2m; omega
  clear hr1 hr2 H hO hN hk1m hk2m
  go_enter Tryd.func14, Tryd.ntmps14
  go_upto_region 1 with fail
  go_quiet (fail)
  have HBq : Hid (Both (w.drewN nq) B p f q (.slice A1 N k1) (.slice A2 N k2) ⟨a, x, y, s, pp, pc, h, ⟨m, l⟩⟩) := Lib.hid (by rw [← HN.out]; exact HBo.out.fr ((Fr.refl [] w).drewN nq) (by simp))
  go_wp2_with fail
  clear c0 c1 c2 c3 c4 c5 c6 d0 d1 d2 d3 d4 d5 d6
  go_loopw [7] (fun s7 wr => ∃ (i k : Nat), s7 = .int .i64 (i : Int) ∧ i ≤ N ∧ wr = w.drewN k) (fun s7 _ => N - (intOf s7).toNat)
  case atStart => exact ⟨0, nq, rfl, Nat.zero_le _, rfl⟩
  case round =>
    obtain ⟨i, k, rfl, hi, hw⟩ := hrel
    have HW := Lib.hid hw
    have cw' : wr.cell? ⟨f, 65536, none⟩ = some (.slice A1 N k1) := by rw [hw]; exact cw
    have dw' : wr.cell? ⟨q, 65543, none⟩ = some (.slice A2 N k2) := by rw [hw]; exact dw
    have hi0 : (0 : Int) ≤ i := by omega
    have hf : Fr [] w wr := by rw [hw]; exact (Fr.refl [] w).drewN k
    have HF := Lib.hid hf
    clear hw hf HBq HBo cw dw
    by_cases h1 : i < N
    · have h1' : (i : Int) < N := by omega
      have hil : i < l.length := by rw [HN.out]; exact h1
      obtain ⟨b1, o1, rfl, hc1⟩ := (HR1.out.later HF.out (by simp)) (by omega)
      obtain ⟨b2, o2, rfl, hc2⟩ := (HR2.out.later HF.out (by simp)) (by omega)
      obtain ⟨q0, q1⟩ := hc1 i hil
      obtain ⟨r0, r1⟩ := hc2 i hil
      generalize l[i].1 = za at *
      generalize l[i].2 = zb at *
      have hg := guardP
      have he := eqP_same
      clear hc1 hc2 hil
      go_upto_region 6 with fail
      go_quiet (fail)
      have HW2 : Hid (wr.drewN nq = w.drewN (k + nq)) := Lib.hid (by rw [HW.out, World.drewN_drewN])
      rw [HW2.out]
      go_wp2
      go_roundw
      case rel => exact ⟨i + 1, _, by go_num, by omega, rfl⟩
      case measure => simp [intOf]; omega
    · go_wp2
      go_ret
      exact ⟨rfl, k, HW.out⟩

end Ms
end Go.Proofs.YtlnpadekgakghaaDoor
