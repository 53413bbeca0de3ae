/-
  picklocklaw11.shown returns true, and turns nothing that was there. No condition.
-/
import Derived.Test.YtgakdlbdbiacgaaNmMapP
import Derived.Test.YtgakdlbdbiacgaaNmMade
namespace Go.Proofs.Ytgakdlbdbiacgaa
open Go.RowKit
namespace Nm

def shS : St := new 2 1 8 8
theorem shS_ok : Ok shS := ok_new _ _ _ _ (by omega) (by omega) (by omega) (by omega)
def shT : St := wr shS 32768 1
theorem shT_ok : Ok shT := ok_wr _ _ _ shS_ok ⟨by omega, by omega⟩

set_option maxRecDepth 100000 in
set_option maxHeartbeats 4000000 in
theorem shown11 (w : World) : Calls Try.prog 9 #[] w fun e w' => e = .returned (.bool true) ∧ Fr [] w w' := by
  have m1 := make_z 65536 65536 rfl (by decide)
  have m2 := make_z 8192 8192 rfl (by decide)
  have m3 := make_z 16384 16384 rfl (by decide)
  have HN1 : Hid (∀ W w1 A A', Fr [] w1 W → Calls Try.prog 19 #[.agg #[.int .i64 2, .int .i64 1, .slice A 65536 65536, .slice A' 8192 8192, .bool false]] W (fun e w' => ∃ p g, e = .returned (.tuple #[.pointer (some ⟨p, 0, none⟩), .int .i64 0]) ∧ ProgAt w' p g shS ∧ Fr [] w1 w' ∧ w1.heap.size ≤ p ∧ w1.heap.size ≤ g)) := Lib.hid (fun W w1 A A' hW =>
    (new_ok W 2 1 8 8 A A' 65536 65536 8192 8192 false (by omega) (by omega) (by decide) (by decide) (by decide) (by decide) (by decide) (by decide)).mono fun e w' ⟨p, g, g1, g2, g3, g4, g5⟩ => ⟨p, g, g1, g2, hW.tr g3, Nat.le_trans hW.size g4, Nat.le_trans hW.size g5⟩)
  have HN2 : Hid (∀ W w1 A A', Fr [] w1 W → Calls Try.prog 19 #[.agg #[.int .i64 5, .int .i64 0, .slice A 16384 16384, .slice A' 8192 8192, .bool false]] W (fun e w' => e = .returned (.tuple #[.pointer none, .int .i64 1]) ∧ Fr [] w1 w')) := Lib.hid (fun W w1 A A' hW =>
    (new_unknown W 5 0 A A' 16384 16384 8192 8192 false (by omega)).mono fun e w' ⟨g1, g3⟩ => ⟨g1, hW.tr g3⟩)
  go_enter Try.func9, Try.ntmps9
  go_upto_region 1 with fail
  go_cut [1, 2] (fun s1 s2 wx => ∃ p g, s1 = .pointer (some ⟨p, 0, none⟩) ∧ s2 = .int .i64 0 ∧ ProgAt wx p g shS ∧ Fr [] w wx ∧ w.heap.size ≤ p ∧ w.heap.size ≤ g)
  case first =>
    go_region_held3 (fun _ => True) (first | exact trivial) (first
      | (go_at_call 19; (with_reducible refine (HN1.out _ w _ _ (by first | with_reducible exact (((Fr.refl [] _).alloc _).alloc _).drew | with_reducible exact (((Fr.refl [] _).alloc _).alloc _))).mono ?_); rintro e wc ⟨p, g, rfl, hp, hf, hg1, hg2⟩; have HP := Lib.hid hp; have HF := Lib.hid hf; have HG1 := Lib.hid hg1; have HG2 := Lib.hid hg2; clear hp hf hg1 hg2))
    all_goals
      go_wp2_with fail
      go_meet
      exact ⟨_, _, rfl, rfl, HP.out, HF.out, HG1.out, HG2.out⟩
  case rest =>
    obtain ⟨p, g, rfl, rfl, hp, hf, hg1, hg2⟩ := hcut
    obtain ⟨w2, rfl⟩ : ∃ x, x = wc := ⟨_, rfl⟩
    have HP := Lib.hid hp
    have HF := Lib.hid hf
    have HG := Lib.hid hg2
    clear hp hf hg1 hg2 HN1
    go_wp2_with fail
    go_cut [3, 4] (fun s3 s4 wx => s3 = .pointer none ∧ s4 = .int .i64 1 ∧ Fr [] w2 wx)
    case first =>
      go_region_held3 (fun _ => True) (first | exact trivial) (first
        | (go_at_call 19; (with_reducible refine (HN2.out _ w2 _ _ (by first | with_reducible exact (((Fr.refl [] _).alloc _).alloc _).drew | with_reducible exact (((Fr.refl [] _).alloc _).alloc _))).mono ?_); rintro e wd ⟨rfl, hf⟩; have HFd := Lib.hid hf; clear hf))
      all_goals
        go_wp2_with fail
        go_meet
        exact ⟨rfl, rfl, HFd.out⟩
    case rest =>
      obtain ⟨rfl, rfl, hf⟩ := hcut
      have HP2 := Lib.hid (HP.out.fr hf (by simp) (by simp))
      have HF2 := Lib.hid (HF.out.tr hf)
      clear hf HP HF HN2 m1 m2 m3
      obtain ⟨w3, rfl⟩ : ∃ x, x = wc := ⟨_, rfl⟩
      go_wp2_with fail
      (with_reducible refine (pwrite_all w3 p g shS 32768 1 HP2.out shS_ok (by omega) (by omega) (by unfold byte; omega)).mono ?_)
      rintro e w4 ⟨rfl, hp, hf⟩
      have HP4 : Hid (∀ n, ProgAt (w4.drewN n) p g shT) := Lib.hid fun n => ProgAt.fr hp ((Fr.refl [] w4).drewN n) (by simp) (by simp)
      have HP40 : Hid (ProgAt w4 p g shT) := Lib.hid hp
      have HF4 : Hid (Fr [] w w4) := Lib.hid (HF2.out.trans hf (by simp; exact HG.out))
      clear hp hf HP2 HF2
      go_wp2_with fail
      (with_reducible refine (pprg_all w4 p g shT 32769 HP40.out shT_ok (by omega) (by omega)).mono ?_)
      rintro e w5 ⟨rfl, n1, rfl⟩
      rw [show prgOf shT 32769 = 16385 from by decide]
      go_wp2_with fail
      (with_reducible refine (pprg_all _ p g shT 49152 (HP4.out _) shT_ok (by omega) (by omega)).mono ?_)
      rintro e w5 ⟨rfl, n2, rfl⟩
      rw [show prgOf shT 49152 = 49152 from by decide, World.drewN_drewN]
      go_wp2_with fail
      (with_reducible refine (pprg_all _ p g shT 32767 (HP4.out _) shT_ok (by omega) (by omega)).mono ?_)
      rintro e w5 ⟨rfl, n3, rfl⟩
      rw [show prgOf shT 32767 = -1 from by decide, World.drewN_drewN]
      go_wp2_with fail
      (with_reducible refine (ppage_all _ p g shT 32768 (HP4.out _) shT_ok (by omega) (by omega)).mono ?_)
      rintro e w5 ⟨rfl, n4, rfl⟩
      rw [show pageOf shT 32768 = 2 from by decide, World.drewN_drewN]
      go_wp2_with fail
      (with_reducible refine (pchr_all _ p g shT 4660 (HP4.out _) shT_ok (by omega) (by omega)).mono ?_)
      rintro e w5 ⟨rfl, n5, rfl⟩
      rw [show chrOf shT 4660 = 4660 from by decide, World.drewN_drewN]
      go_wp2_with fail
      (with_reducible refine (pmirror_any _ p g shT (HP4.out _) shT_ok).mono ?_)
      rintro e w5 ⟨rfl, rfl⟩
      rw [show mirOf shT = 1 from by decide]
      go_wp2_with fail
      (with_reducible refine (pirq_any _ p g shT (HP4.out _) shT_ok).mono ?_)
      rintro e w5 ⟨rfl, rfl⟩
      rw [show shT.ask = false from by decide]
      go_wp2
      go_ret
      exact ⟨by simp, HF4.out.drewN _⟩

end Nm
end Go.Proofs.Ytgakdlbdbiacgaa
