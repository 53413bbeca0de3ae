/-
  picklocklaw11.NesmapMakes returns true for every input. No condition.
-/
import Derived.Test.YtgakdlbdbiacgaaNmShown
namespace Go.Proofs.Ytgakdlbdbiacgaa
open Go.RowKit
namespace Nm

theorem low24_bd (n : Int) : 0 ≤ bits .and .i64 n 16777215 ∧ bits .and .i64 n 16777215 ≤ 16777215 := by
  have h : (BitVec.ofInt 64 16777215).toNat = 2 ^ 24 - 1 := by decide
  have key : (BitVec.ofInt 64 n &&& BitVec.ofInt 64 16777215).toNat = (n % ((2 ^ 64 : Nat) : Int)).toNat % 2 ^ 24 := by
    rw [BitVec.toNat_and, BitVec.toNat_ofInt, h, Nat.and_two_pow_sub_one_eq_mod]
  have e : bits .and .i64 n 16777215 = IntKind.i64.wrap ((BitVec.ofInt 64 n &&& BitVec.ofInt 64 16777215).toNat : Nat) := rfl
  rw [e, key, IntKind.wrap_i64]
  omega

set_option maxRecDepth 100000 in
set_option maxHeartbeats 4000000 in
theorem makes_walk (mp z1 z2 : Int) (w : World) :
    Calls Try.prog 5 #[.int .i64 mp, .int .i64 z1, .int .i64 z2] w fun e w' => e = .returned (.bool true) ∧ Below w.heap.size w w' := by
  obtain ⟨Z1, hZ1⟩ : ∃ y, bits .and .i64 z1 16777215 = y := ⟨_, rfl⟩
  obtain ⟨Z2, hZ2⟩ : ∃ y, bits .and .i64 z2 16777215 = y := ⟨_, rfl⟩
  have b1 := low24_bd z1
  have b2 := low24_bd z2
  rw [hZ1] at b1
  rw [hZ2] at b2
  obtain ⟨P, hP⟩ : ∃ y, Z1.tmod 50001 = y := ⟨_, rfl⟩
  obtain ⟨U, hU⟩ : ∃ y, Z2.tmod 50001 = y := ⟨_, rfl⟩
  have hP2 : Z1 % 50001 = P := by rw [← hP, Int.tmod_eq_emod_of_nonneg b1.1]
  have hU2 : Z2 % 50001 = U := by rw [← hU, Int.tmod_eq_emod_of_nonneg b2.1]
  obtain ⟨n, hn⟩ : ∃ n : Nat, P = (n : Int) := ⟨P.toNat, by omega⟩
  obtain ⟨n', hn'⟩ : ∃ n : Nat, U = (n : Int) := ⟨U.toNat, by omega⟩
  have hnb : n ≤ 50000 := by omega
  have hnb' : n' ≤ 50000 := by omega
  have m1 := make_z P n hn (by omega)
  have m2 := make_z U n' hn' (by omega)
  have hP0 : 0 ≤ P := by omega
  have hU0 : 0 ≤ U := by omega
  obtain ⟨PM, hPM⟩ : ∃ y, P % 16384 = y := ⟨_, rfl⟩
  obtain ⟨UM, hUM⟩ : ∃ y, U % 8192 = y := ⟨_, rfl⟩
  have hPM' : P.tmod 16384 = PM := by rw [Int.tmod_eq_emod_of_nonneg hP0]; exact hPM
  have hUM' : U.tmod 8192 = UM := by rw [Int.tmod_eq_emod_of_nonneg hU0]; exact hUM
  have hw1 : whole n 16384 = (decide (0 < P) && decide (PM = 0)) := by
    unfold whole
    rw [← hn, hPM, show decide (0 < n) = decide (0 < P) from by rw [decide_eq_decide]; omega]
  have hw2 : whole n' 8192 = (decide (0 < U) && decide (UM = 0)) := by
    unfold whole
    rw [← hn', hUM, show decide (0 < n') = decide (0 < U) from by rw [decide_eq_decide]; omega]
  have HN := Lib.hid hn
  have HN' := Lib.hid hn'
  have HW1 := Lib.hid hw1
  have HW2 := Lib.hid hw2
  clear b1 b2 hP2 hU2 hn hn' hw1 hw2 hPM hUM
  by_cases hmay : (0 ≤ mp ∧ mp ≤ 4) ∧ (0 < P ∧ PM = 0) ∧ (0 < U ∧ UM = 0)
  · obtain ⟨⟨a0, a1⟩, ⟨a2, rfl⟩, ⟨a3, rfl⟩⟩ := hmay
    have HK : Hid (∀ W w1 A A', Fr [] w1 W → Calls Try.prog 19 #[.agg #[.int .i64 mp, .int .i64 0, .slice A n n, .slice A' n' n', .bool false]] W (fun e w' => ∃ p, e = .returned (.tuple #[.pointer (some ⟨p, 0, none⟩), .int .i64 0]) ∧ Fr [] w1 w')) := Lib.hid (fun W w1 A A' hW =>
      (new_ok W mp 0 _ _ A A' n n n' n' false a0 a1 (by rw [HW1.out]; simp [a2]) (by rw [HW2.out]; simp [a3]) rfl rfl (by omega) (by omega)).mono fun e w' ⟨p, g, g1, g2, g3, g4, g5⟩ => ⟨p, g1, hW.tr g3⟩)
    clear hnb hnb'
    go_enter Try.func5, Try.ntmps5
    go_wp2_with fail
    (with_reducible refine (shown11 w).mono ?_)
    rintro e w1 ⟨rfl, hf1⟩
    have HF1 := Lib.hid hf1
    clear hf1
    go_upto_region 4 with fail
    go_cut [8, 9] (fun s8 s9 wx => ∃ p, s8 = .pointer (some ⟨p, 0, none⟩) ∧ s9 = .int .i64 0 ∧ Fr [] w1 wx)
    case first =>
      go_region_held3 (fun _ => True) (first | exact trivial) (first
        | (go_at_call 19; (with_reducible refine (HK.out _ w1 _ _ (by first | with_reducible exact (((Fr.refl [] _).alloc _).alloc _).drew | with_reducible exact (((Fr.refl [] _).alloc _).alloc _))).mono ?_); rintro e wd ⟨p, rfl, hf⟩; have HFd := Lib.hid hf; clear hf))
      all_goals
        go_wp2_with fail
        go_meet
        exact ⟨_, rfl, rfl, HFd.out⟩
    case rest =>
      obtain ⟨p, rfl, rfl, hf⟩ := hcut
      have HFz := Lib.hid (HF1.out.tr hf)
      clear hf HF1 HK m1 m2
      go_wp2
      go_ret
      exact ⟨by simp, HFz.out.below (by simp) (Nat.le_refl _)⟩
  · have HK : Hid (∀ W w1 A A', Fr [] w1 W → Calls Try.prog 19 #[.agg #[.int .i64 mp, .int .i64 0, .slice A n n, .slice A' n' n', .bool false]] W (fun e w' => e = .returned (.tuple #[.pointer none, .int .i64 1]) ∧ Fr [] w1 w')) := Lib.hid (by
      intro W w1 A A' hW
      by_cases hk : 0 ≤ mp ∧ mp ≤ 4
      · refine (new_part W mp 0 A A' n n n' n' false hk.1 hk.2 ?_).mono fun e w' h => ⟨h.1, hW.tr h.2⟩
        rw [HW1.out, HW2.out]
        by_cases g1 : 0 < P
        · by_cases g2 : PM = 0
          · by_cases g3 : 0 < U
            · have g4 : ¬ UM = 0 := fun g4 => hmay ⟨hk, ⟨g1, g2⟩, ⟨g3, g4⟩⟩
              simp [g4]
            · simp [g3]
          · simp [g2]
        · simp [g1]
      · exact (new_unknown W mp 0 A A' n n n' n' false hk).mono fun e w' h => ⟨h.1, hW.tr h.2⟩)
    have hparts : (mp < 0) ∨ (0 ≤ mp ∧ 4 < mp) ∨ (0 ≤ mp ∧ mp ≤ 4 ∧ P = 0) ∨ (0 ≤ mp ∧ mp ≤ 4 ∧ 0 < P ∧ (PM == 0) = false) ∨ (0 ≤ mp ∧ mp ≤ 4 ∧ 0 < P ∧ PM = 0 ∧ U = 0) ∨ (0 ≤ mp ∧ mp ≤ 4 ∧ 0 < P ∧ PM = 0 ∧ 0 < U ∧ (UM == 0) = false) := by
      simp only [beq_eq_false_iff_ne]
      omega
    have HPt := Lib.hid hparts
    clear hmay hparts hnb hnb'
    go_enter Try.func5, Try.ntmps5
    go_wp2_with fail
    (with_reducible refine (shown11 w).mono ?_)
    rintro e w1 ⟨rfl, hf1⟩
    have HF1 := Lib.hid hf1
    clear hf1
    go_upto_region 4 with fail
    go_cut [8, 9] (fun s8 s9 wx => s8 = .pointer none ∧ s9 = .int .i64 1 ∧ Fr [] w1 wx)
    case first =>
      go_region_held3 (fun _ => True) (first | exact trivial) (first
        | (go_at_call 19; (with_reducible refine (HK.out _ w1 _ _ (by first | with_reducible exact (((Fr.refl [] _).alloc _).alloc _).drew | with_reducible exact (((Fr.refl [] _).alloc _).alloc _))).mono ?_); rintro e wd ⟨rfl, hf⟩; have HFd := Lib.hid hf; clear hf))
      all_goals
        go_wp2_with fail
        go_meet
        exact ⟨rfl, rfl, HFd.out⟩
    case rest =>
      obtain ⟨rfl, rfl, hf⟩ := hcut
      have HFz := Lib.hid (HF1.out.tr hf)
      clear hf HF1 HK m1 m2
      rcases HPt.out with h1 | ⟨h1, h2⟩ | ⟨h1, h2, rfl⟩ | ⟨h1, h2, h3, h4⟩ | ⟨h1, h2, h3, rfl, rfl⟩ | ⟨h1, h2, h3, rfl, h5, h6⟩
      all_goals
        clear HPt HW1 HW2 HN HN'
        go_wp2
        go_ret
        exact ⟨by simp, HFz.out.below (by simp) (Nat.le_refl _)⟩

end Nm
end Go.Proofs.Ytgakdlbdbiacgaa
