/-
  picklocklaw12.GbmapMakes returns true for every input. No condition.
-/
import Derived.Test.YtglnpgdigdfjiaaGmShown
namespace Go.Proofs.Ytglnpgdigdfjiaa
open Go.RowKit
namespace Gm

set_option maxRecDepth 100000 in
set_option maxHeartbeats 4000000 in
theorem makes_walk (kd rom ram : Int) (w : World) (hk : isK kd) :
    Calls Try.prog 5 #[.int .i64 kd, .int .i64 rom, .int .i64 ram] w fun e w' => e = .returned (.bool true) ∧ Below w.heap.size w w' := by
  obtain ⟨Z1, hZ1⟩ : ∃ y, bits .and .i64 rom 16777215 = y := ⟨_, rfl⟩
  have b1 := and_bd 24 16777215 rom (by decide) (by omega)
  rw [hZ1] at b1
  obtain ⟨P, hP⟩ : ∃ y, Z1.tmod 100001 = y := ⟨_, rfl⟩
  have hP2 : Z1 % 100001 = P := by rw [← hP, Int.tmod_eq_emod_of_nonneg b1.1]
  obtain ⟨n, hn⟩ : ∃ n : Nat, P = (n : Int) := ⟨P.toNat, by omega⟩
  have m1 := make_z P n hn (by omega)
  have hP0 : 0 ≤ P := by omega
  have hnb : n ≤ 100000 := by omega
  obtain ⟨PM, hPM⟩ : ∃ y, P % 16384 = y := ⟨_, rfl⟩
  have hPM' : P.tmod 16384 = PM := by rw [Int.tmod_eq_emod_of_nonneg hP0]; exact hPM
  have hPM0 : 0 ≤ PM := by omega
  have hPQ : PM = 0 → P = 16384 * (P / 16384) := by omega
  have HK := Lib.hid hk
  by_cases hmay : (kd = 0 ∨ kd = 1 ∨ kd = 3 ∨ kd = 5) ∧ 32768 ≤ P ∧ PM = 0 ∧ 0 ≤ ram
  · obtain ⟨a1, a2, rfl, a3⟩ := hmay
    have HN : Hid (∀ W w1 A, Fr [] w1 W → Calls Try.prog 16 #[.agg #[.int .i64 kd, .slice A n n, .int .i64 ram]] W (fun e w' => ∃ p, e = .returned (.tuple #[.pointer (some ⟨p, 0, none⟩), .int .i64 0]) ∧ Fr [] w1 w')) := Lib.hid (fun W w1 A hW =>
      (new_ok W kd ram (P / 16384) A n n a1 (by omega) (by rw [← hn]; exact hPQ rfl) (by omega) a3).mono fun e w' ⟨p, g1, g2, g3, g4⟩ => ⟨p, g1, hW.tr g3⟩)
    clear b1 hP2 hn hPM hPQ hnb hk HK
    go_enter Try.func5, Try.ntmps5
    go_wp2_with fail
    (with_reducible refine (shown12 w).mono ?_)
    rintro e w1 ⟨rfl, hf1⟩
    have HF1 := Lib.hid hf1
    clear hf1
    go_wp2_with fail
    (with_reducible refine (HN.out _ w1 _ ((Fr.refl [] _).alloc _)).mono ?_)
    rintro e w2 ⟨p, rfl, hf⟩
    have HF2 := Lib.hid (HF1.out.tr hf)
    clear hf HF1 HN m1
    obtain rfl | rfl | rfl | rfl := a1
    all_goals
      go_wp2
      go_ret
      exact ⟨by simp, HF2.out.below (by simp) (Nat.le_refl _)⟩
  · have HN : Hid (∀ W w1 A, Fr [] w1 W → Calls Try.prog 16 #[.agg #[.int .i64 kd, .slice A n n, .int .i64 ram]] W (fun e w' => e = .returned (.tuple #[.pointer none, .int .i64 1]) ∧ Fr [] w1 w')) := Lib.hid (fun W w1 A hW =>
      (new_bad W kd ram A n n HK.out (by omega) (by omega)).mono fun e w' ⟨g1, g3⟩ => ⟨g1, hW.tr g3⟩)
    have hparts : (¬ kd = 0 ∧ ¬ kd = 1 ∧ ¬ kd = 3 ∧ ¬ kd = 5) ∨ ((kd = 0 ∨ kd = 1 ∨ kd = 3 ∨ kd = 5) ∧ P < 32768) ∨ ((kd = 0 ∨ kd = 1 ∨ kd = 3 ∨ kd = 5) ∧ 32768 ≤ P ∧ 1 ≤ PM) ∨ ((kd = 0 ∨ kd = 1 ∨ kd = 3 ∨ kd = 5) ∧ 32768 ≤ P ∧ PM = 0 ∧ ram < 0) := by omega
    have HPt := Lib.hid hparts
    clear hmay hparts b1 hP2 hn hPM hPQ hnb hk HK
    go_enter Try.func5, Try.ntmps5
    go_wp2_with fail
    (with_reducible refine (shown12 w).mono ?_)
    rintro e w1 ⟨rfl, hf1⟩
    have HF1 := Lib.hid hf1
    clear hf1
    go_wp2_with fail
    (with_reducible refine (HN.out _ w1 _ ((Fr.refl [] _).alloc _)).mono ?_)
    rintro e w2 ⟨rfl, hf⟩
    have HF2 := Lib.hid (HF1.out.tr hf)
    clear hf HF1 HN m1
    rcases HPt.out with ⟨k0, k1, k3, k5⟩ | ⟨hk, h1⟩ | ⟨hk, h1, h2⟩ | ⟨hk, h1, rfl, h2⟩
    · have q0 : (kd == 0) = false := by rw [beq_eq_false_iff_ne]; exact k0
      have q1 : (kd == 1) = false := by rw [beq_eq_false_iff_ne]; exact k1
      have q3 : (kd == 3) = false := by rw [beq_eq_false_iff_ne]; exact k3
      have q5 : (kd == 5) = false := by rw [beq_eq_false_iff_ne]; exact k5
      clear HPt k0 k1 k3 k5
      go_wp2
      go_ret
      exact ⟨by simp, HF2.out.below (by simp) (Nat.le_refl _)⟩
    · clear HPt
      obtain rfl | rfl | rfl | rfl := hk
      all_goals
        go_wp2
        go_ret
        exact ⟨by simp, HF2.out.below (by simp) (Nat.le_refl _)⟩
    · clear HPt
      have q0 : (PM == 0) = false := by rw [beq_eq_false_iff_ne]; omega
      obtain rfl | rfl | rfl | rfl := hk
      all_goals
        go_wp2
        go_ret
        exact ⟨by simp, HF2.out.below (by simp) (Nat.le_refl _)⟩
    · clear HPt
      obtain rfl | rfl | rfl | rfl := hk
      all_goals
        go_wp2
        go_ret
        exact ⟨by simp; exact h2, HF2.out.below (by simp) (Nat.le_refl _)⟩

end Gm
end Go.Proofs.Ytglnpgdigdfjiaa
