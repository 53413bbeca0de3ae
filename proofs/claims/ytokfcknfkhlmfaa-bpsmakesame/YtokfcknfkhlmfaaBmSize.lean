/-
  Contracts of bpsmake's number, moves, size, gain, better. Conditions: the kind below 4, the length up to 16777216, the move within 2^30.
-/
import Derived.Test.YtokfcknfkhlmfaaBpsMath
import Derived.Test.YtokfcknfkhlmfaaVarPut2
import Derived.Test.YtokfcknfkhlmfaaVarTurn
import Derived.Test.YtokfcknfkhlmfaaBpsAct
import Derived.Deep.DeepCutAuto
import Derived.Deep.Cut
import Derived.Deep.RegionLaw
namespace Go.Proofs.Ytokfcknfkhlmfaa
open Go.RowKit
namespace Bm

/-- An action as a value. -/
def aV (k n : Nat) (mv : Int) (D : Option Addr) (dn dc : Nat) : Value := .agg #[.int .i64 (k : Int), .int .i64 (n : Int), .int .i64 mv, .slice D dn dc]
/-- How many bytes an action has in a patch, beside its Data. -/
def sz (k n : Nat) (mv : Int) : Nat := (Var.putV ((n - 1) * 4 + k)).length + if 2 ≤ k then (Var.putV (Bps.turnN mv)).length else 0
/-- How many bytes fewer an action has than it makes. -/
def gn (k n : Nat) (mv : Int) : Int := if n = 0 then -1 else (n : Int) - (sz k n mv : Int)

theorem sz_le (k n : Nat) (mv : Int) (hk : k < 4) (hn : n ≤ 16777216) (h0 : -1073741824 ≤ mv) (h1 : mv ≤ 1073741824) : sz k n mv ≤ 10 := by
  have e1 := Var.putV_le5 (u := (n - 1) * 4 + k) (by unfold Var.most; omega)
  have e2 := Var.putV_le5 (Bps.turnN_le mv h0 h1)
  unfold sz
  split <;> omega

set_option maxRecDepth 100000 in
theorem number_any (w : World) (k n dn dc N : Nat) (mv : Int) (D : Option Addr) (hk : k < 4) (hn : 1 ≤ n) (hn2 : n ≤ 16777216) (hN : (n - 1) * 4 + k = N) :
    Calls Try.prog 60 #[aV k n mv D dn dc] w fun e w' => e = .returned (.int .u64 (N : Int)) ∧ Fr [] w w' := by
  unfold aV
  obtain ⟨n1, h1⟩ : ∃ n1, n1 + 1 = n := ⟨n - 1, by omega⟩
  obtain ⟨M, hM⟩ : ∃ M, 4 * n1 = M := ⟨_, rfl⟩
  have e1 : (n : Int) - 1 = (n1 : Int) := by omega
  have e2 : IntKind.i64.wrap (n1 : Int) = (n1 : Int) := by rw [IntKind.wrap_i64]; omega
  have e3 : IntKind.u64.wrap (n1 : Int) = (n1 : Int) := by rw [IntKind.wrap_u64]; omega
  have e4 : 4 * (n1 : Int) = (M : Int) := by omega
  have e5 : IntKind.u64.wrap (M : Int) = (M : Int) := by rw [IntKind.wrap_u64]; omega
  have e6 : IntKind.u64.wrap (k : Int) = (k : Int) := by rw [IntKind.wrap_u64]; omega
  have e7 : (M : Int) + (k : Int) = (N : Int) := by omega
  have e8 : IntKind.u64.wrap (N : Int) = (N : Int) := by rw [IntKind.wrap_u64]; omega
  clear hN hM h1
  go_enter Try.func60, Try.ntmps60
  go_wp2
  go_ret
  exact ⟨rfl, (Fr.refl [] w).alloc _⟩

set_option maxRecDepth 100000 in
theorem moves_any (w : World) (k n dn dc : Nat) (mv : Int) (D : Option Addr) (hk : k < 4) :
    Calls Try.prog 61 #[aV k n mv D dn dc] w fun e w' => e = .returned (.bool (decide (2 ≤ k))) ∧ Fr [] w w' := by
  unfold aV
  rcases (by omega : k = 0 ∨ k = 1 ∨ k = 2 ∨ k = 3) with rfl | rfl | rfl | rfl
  all_goals
    go_enter Try.func61, Try.ntmps61
    go_wp2
    go_ret
    exact ⟨rfl, (Fr.refl [] w).alloc _⟩

set_option maxRecDepth 100000 in
set_option maxHeartbeats 1000000 in
theorem size_any (w : World) (k n dn dc : Nat) (mv : Int) (D : Option Addr) (hk : k < 4) (hn : 1 ≤ n) (hn2 : n ≤ 16777216) (h0 : -1073741824 ≤ mv) (h1 : mv ≤ 1073741824) :
    Calls Try.prog 58 #[aV k n mv D dn dc] w fun e w' => e = .returned (.int .i64 (sz k n mv : Int)) ∧ Fr [] w w' := by
  obtain ⟨N, hN⟩ : ∃ N, (n - 1) * 4 + k = N := ⟨_, rfl⟩
  have hN2 : N ≤ Var.most := by unfold Var.most; omega
  obtain ⟨P, hP⟩ : ∃ P, (Var.putV N).length = P := ⟨_, rfl⟩
  obtain ⟨R, hR⟩ : ∃ R, (Var.putV (Bps.turnN mv)).length = R := ⟨_, rfl⟩
  have hP5 : P ≤ 5 := by rw [← hP]; exact Var.putV_le5 hN2
  have hR5 : R ≤ 5 := by rw [← hR]; exact Var.putV_le5 (Bps.turnN_le mv h0 h1)
  have HT := Lib.hid (Bps.turnN_cast mv h0 h1)
  have HT2 := Lib.hid (Bps.turnN_le mv h0 h1)
  have HS : Hid (sz k n mv = P + if 2 ≤ k then R else 0) := Lib.hid (by unfold sz; rw [hN, hP, hR])
  have HPP : Hid (∀ W, Calls Try.prog 16 #[.int .u64 (N : Int)] W fun e w' => ∃ g, e = .returned (.slice (some ⟨g, 0, none⟩) P P) ∧ Fr [] W w') := Lib.hid fun W => by
    rw [← hP]
    exact (Var.put_any W N hN2).mono fun e w' ⟨g, a1, _, _, a4⟩ => ⟨g, a1, a4⟩
  obtain ⟨T, hT⟩ : ∃ T, Bps.turnN mv = T := ⟨_, rfl⟩
  have HPT : Hid (∀ W, Calls Try.prog 62 #[.int .i64 mv] W fun e w' => e = .returned (.int .u64 (T : Int)) ∧ W = w') := Lib.hid fun W => by
    rw [← hT, HT.out]
    exact Var.turn_any W mv (by omega) (by omega)
  have HPR : Hid (∀ W, Calls Try.prog 16 #[.int .u64 (T : Int)] W fun e w' => ∃ g, e = .returned (.slice (some ⟨g, 0, none⟩) R R) ∧ Fr [] W w') := Lib.hid fun W => by
    rw [← hR, ← hT]
    exact (Var.put_any W (Bps.turnN mv) HT2.out).mono fun e w' ⟨g, a1, _, _, a4⟩ => ⟨g, a1, a4⟩
  have HNN : Hid (∀ W, Calls Try.prog 60 #[.agg #[.int .i64 (k : Int), .int .i64 (n : Int), .int .i64 mv, .slice D dn dc]] W fun e w' => e = .returned (.int .u64 (N : Int)) ∧ Fr [] W w') := Lib.hid fun W => number_any W k n dn dc N mv D hk hn hn2 hN
  have HMM : Hid (∀ W, Calls Try.prog 61 #[.agg #[.int .i64 (k : Int), .int .i64 (n : Int), .int .i64 mv, .slice D dn dc]] W fun e w' => e = .returned (.bool (decide (2 ≤ k))) ∧ Fr [] W w') := Lib.hid fun W => moves_any W k n dn dc mv D hk
  obtain ⟨s, hs⟩ : ∃ s, w.heap.size = s := ⟨_, rfl⟩
  have hb := Blk.fresh w 82 #[.int .i64 (k : Int), .int .i64 (n : Int), .int .i64 mv, .slice D dn dc]
  rw [hs] at hb
  have HB := Lib.hid hb
  have HF : Hid (Fr [] w (w.alloc (.cells #[.int .i64 (k : Int), .int .i64 (n : Int), .int .i64 mv, .slice D dn dc] 82))) := Lib.hid ((Fr.refl [] w).alloc _)
  clear hN hP hR hT HT HT2 hb h0 h1 hn hn2
  unfold aV
  go_enter Try.func58, Try.ntmps58
  go_upto_region 1 with fail
  generalize w.alloc _ = w1 at *
  have hc := HB.out
  obtain ⟨c0, c1, c2, c3⟩ := Bps.blk4 hc
  go_wp2_with fail
  refine (HNN.out w1).mono ?_
  rintro e w2 ⟨rfl, hf2⟩
  have HB2 := Lib.hid (HB.out.fr hf2 (by simp))
  have HF2 := Lib.hid (HF.out.tr hf2)
  clear hf2 HB HF c0 c1 c2 c3 hc
  go_wp2_with fail
  refine (HPP.out w2).mono ?_
  rintro e w3 ⟨g3, rfl, hf3⟩
  have HB3 := Lib.hid (HB2.out.fr hf3 (by simp))
  have HF3 := Lib.hid (HF2.out.tr hf3)
  clear hf3 HB2 HF2
  obtain ⟨c0, c1, c2, c3⟩ := Bps.blk4 HB3.out
  go_wp2_with fail
  refine (HMM.out w3).mono ?_
  rintro e w4 ⟨rfl, hf4⟩
  have HB4 := Lib.hid (HB3.out.fr hf4 (by simp))
  have HF4 := Lib.hid (HF3.out.tr hf4)
  clear hf4 HB3 HF3 c0 c1 c2 c3
  obtain ⟨c0, c1, c2, c3⟩ := Bps.blk4 HB4.out
  by_cases hk2 : 2 ≤ k
  · have hd : decide (2 ≤ k) = true := by simp [hk2]
    rw [hd]
    go_wp2_with fail
    refine (HPT.out w4).mono ?_
    rintro e w5 ⟨rfl, rfl⟩
    go_wp2_with fail
    refine (HPR.out w4).mono ?_
    rintro e w6 ⟨g6, rfl, hf6⟩
    have HF6 := Lib.hid (HF4.out.tr hf6)
    clear hf6 c0 c1 c2 c3
    obtain ⟨Z, hZ⟩ : ∃ Z, P + R = Z := ⟨_, rfl⟩
    have hZ1 : (P : Int) + (R : Int) = (Z : Int) := by omega
    have hZ2 : IntKind.i64.wrap (Z : Int) = (Z : Int) := by rw [IntKind.wrap_i64]; omega
    have HZ := Lib.hid hZ
    clear hZ
    go_wp2
    go_ret
    refine ⟨?_, HF6.out⟩
    rw [HS.out, if_pos hk2, HZ.out]
    rfl
  · have hd : decide (2 ≤ k) = false := by simp; omega
    rw [hd]
    go_wp2
    go_ret
    refine ⟨?_, HF4.out⟩
    rw [HS.out, if_neg hk2, Nat.add_zero]
    rfl

end Bm
end Go.Proofs.Ytokfcknfkhlmfaa
