/-
  picklocklaw12.shown returns true, and turns nothing that was there. No condition.
-/
import Derived.Test.YtglnpgdigdfjiaaGmWrite
import Derived.Test.YtglnpgdigdfjiaaGmReads
import Derived.Test.YtglnpgdigdfjiaaGmMade
namespace Go.Proofs.Ytglnpgdigdfjiaa
open Go.RowKit
namespace Gm

def sh0 : St := new 1 64 32768
theorem sh0_ok : Ok sh0 := ok_new _ _ _ (by omega) (by omega) (by omega) (by omega) (by omega)
def sh1 : St := wr sh0 8192 0
def sh2 : St := wr sh1 16384 1
def sh3 : St := wr sh2 0 10
theorem b0 : byte 0 := ⟨by omega, by omega⟩
theorem b1 : byte 1 := ⟨by omega, by omega⟩
theorem b10 : byte 10 := ⟨by omega, by omega⟩
theorem sh1_ok : Ok sh1 := ok_wr _ _ _ sh0_ok b0
theorem sh2_ok : Ok sh2 := ok_wr _ _ _ sh1_ok b1
theorem sh3_ok : Ok sh3 := ok_wr _ _ _ sh2_ok b10

set_option maxRecDepth 100000 in
set_option maxHeartbeats 4000000 in
theorem shown12 (w : World) : Calls Try.prog 8 #[] w fun e w' => e = .returned (.bool true) ∧ Fr [] w w' := by
  have m1 := make_z 1048576 1048576 rfl (by decide)
  have m2 := make_z 32768 32768 rfl (by decide)
  have HN1 : Hid (∀ W w1 A, Fr [] w1 W → Calls Try.prog 16 #[.agg #[.int .i64 1, .slice A 1048576 1048576, .int .i64 32768]] W (fun e w' => ∃ p, e = .returned (.tuple #[.pointer (some ⟨p, 0, none⟩), .int .i64 0]) ∧ ProgAt w' p sh0 ∧ Fr [] w1 w' ∧ w1.heap.size ≤ p)) := Lib.hid (fun W w1 A hW =>
    (new_ok W 1 32768 64 A 1048576 1048576 (by omega) (by omega) (by omega) (by omega) (by omega)).mono fun e w' ⟨p, g1, g2, g3, g4⟩ => ⟨p, g1, g2, hW.tr g3, Nat.le_trans hW.size g4⟩)
  have HN2 : Hid (∀ W w1 A, Fr [] w1 W → Calls Try.prog 16 #[.agg #[.int .i64 2, .slice A 32768 32768, .int .i64 0]] W (fun e w' => e = .returned (.tuple #[.pointer none, .int .i64 1]) ∧ Fr [] w1 w')) := Lib.hid (fun W w1 A hW =>
    (new_bad W 2 0 A 32768 32768 (isK_of _ (by omega) (by omega)) (by omega) (by omega)).mono fun e w' ⟨g1, g3⟩ => ⟨g1, hW.tr g3⟩)
  go_enter Try.func8, Try.ntmps8
  go_wp2_with fail
  (with_reducible refine (HN1.out _ w _ ((Fr.refl [] _).alloc _)).mono ?_)
  rintro e w2 ⟨p, rfl, hp, hf, hl⟩
  have HP := Lib.hid hp
  have HF := Lib.hid hf
  have HL := Lib.hid hl
  clear hp hf hl HN1
  go_wp2_with fail
  (with_reducible refine (HN2.out _ w2 _ ((Fr.refl [] _).alloc _)).mono ?_)
  rintro e w3 ⟨rfl, hf⟩
  have HP3 := Lib.hid (HP.out.fr hf (by simp))
  have HF3 := Lib.hid (HF.out.tr hf)
  clear hf HP HF HN2 m1 m2
  go_wp2_with fail
  (with_reducible refine (pwrite_any w3 p sh0 8192 0 HP3.out sh0_ok (by omega) (by omega) b0).mono ?_)
  rintro e w4 ⟨rfl, hp, hf⟩
  have HP4 : Hid (ProgAt w4 p sh1) := Lib.hid hp
  have HF4 : Hid (Fr [] w w4) := Lib.hid (HF3.out.trans hf (by simp; exact HL.out))
  clear hp hf HP3 HF3
  go_wp2_with fail
  (with_reducible refine (pwrite_any w4 p sh1 16384 1 HP4.out sh1_ok (by omega) (by omega) b1).mono ?_)
  rintro e w5 ⟨rfl, hp, hf⟩
  have HP5 : Hid (ProgAt w5 p sh2) := Lib.hid hp
  have HF5 : Hid (Fr [] w w5) := Lib.hid (HF4.out.trans hf (by simp; exact HL.out))
  clear hp hf HP4 HF4
  go_wp2_with fail
  (with_reducible refine (pram_any w5 p sh2 40960 HP5.out sh2_ok (by omega) (by omega)).mono ?_)
  rintro e w6 ⟨rfl, n1, rfl⟩
  rw [show ramOf sh2 40960 = -1 from by decide]
  have HP6 : Hid (ProgAt (w5.drewN n1) p sh2) := Lib.hid (HP5.out.fr ((Fr.refl [] w5).drewN n1) (by simp))
  have HF6 : Hid (Fr [] w (w5.drewN n1)) := Lib.hid (HF5.out.drewN n1)
  clear HP5 HF5
  generalize w5.drewN n1 = w6 at *
  go_wp2_with fail
  (with_reducible refine (pwrite_any w6 p sh2 0 10 HP6.out sh2_ok (by omega) (by omega) b10).mono ?_)
  rintro e w7 ⟨rfl, hp, hf⟩
  have HP7 : Hid (∀ n, ProgAt (w7.drewN n) p sh3) := Lib.hid fun n => ProgAt.fr hp ((Fr.refl [] w7).drewN n) (by simp)
  have HP70 : Hid (ProgAt w7 p sh3) := Lib.hid hp
  have HF7 : Hid (Fr [] w w7) := Lib.hid (HF6.out.trans hf (by simp; exact HL.out))
  clear hp hf HP6 HF6
  go_wp2_with fail
  (with_reducible refine (pbank_any w7 p sh3 16384 HP70.out sh3_ok (by omega) (by omega)).mono ?_)
  rintro e w8 ⟨rfl, n2, rfl⟩
  rw [show bankOf sh3 16384 = 33 from by decide]
  go_wp2_with fail
  (with_reducible refine (prom_any _ p sh3 16385 (HP7.out _) sh3_ok (by omega) (by omega)).mono ?_)
  rintro e w8 ⟨rfl, n3, rfl⟩
  rw [show romOf sh3 16385 = 540673 from by decide, World.drewN_drewN]
  go_wp2_with fail
  (with_reducible refine (pbank_any _ p sh3 32768 (HP7.out _) sh3_ok (by omega) (by omega)).mono ?_)
  rintro e w8 ⟨rfl, n4, rfl⟩
  rw [show bankOf sh3 32768 = -1 from by decide, World.drewN_drewN]
  go_wp2_with fail
  (with_reducible refine (pram_any _ p sh3 40965 (HP7.out _) sh3_ok (by omega) (by omega)).mono ?_)
  rintro e w8 ⟨rfl, n5, rfl⟩
  rw [show ramOf sh3 40965 = 5 from by decide, World.drewN_drewN]
  go_wp2
  go_ret
  exact ⟨by simp, HF7.out.drewN _⟩

end Gm
end Go.Proofs.Ytglnpgdigdfjiaa
