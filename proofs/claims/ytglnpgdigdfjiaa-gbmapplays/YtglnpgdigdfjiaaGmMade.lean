/-
  picklocklaw12.sizes, made: both maps of a cart, in one state. No condition.
-/
import Derived.Test.YtglnpgdigdfjiaaGmNew
import Derived.Test.YtglnpgdigdfjiaaGmRef
import Derived.Test.YtglnpgdigdfjiaaMakeI
import Derived.BigQuiet
import Derived.OwnWalk
namespace Go.Proofs.Ytglnpgdigdfjiaa
open Go.RowKit
namespace Gm

theorem and_bd (k : Nat) (m x : Int) (hm : (BitVec.ofInt 64 m).toNat = 2 ^ k - 1) (hk : k ≤ 32) : 0 ≤ bits .and .i64 x m ∧ bits .and .i64 x m < ((2 ^ k : Nat) : Int) := by
  have key : (BitVec.ofInt 64 x &&& BitVec.ofInt 64 m).toNat = (x % ((2 ^ 64 : Nat) : Int)).toNat % 2 ^ k := by
    rw [BitVec.toNat_and, BitVec.toNat_ofInt, hm, Nat.and_two_pow_sub_one_eq_mod]
  have e : bits .and .i64 x m = IntKind.i64.wrap ((BitVec.ofInt 64 x &&& BitVec.ofInt 64 m).toNat : Nat) := rfl
  have h1 : (x % ((2 ^ 64 : Nat) : Int)).toNat % 2 ^ k < 2 ^ k := Nat.mod_lt _ (Nat.two_pow_pos k)
  have h2 : 2 ^ k ≤ 2 ^ 32 := Nat.pow_le_pow_right (by omega) hk
  rw [e, key, IntKind.wrap_i64]
  omega

def kindN (x : Int) : Int := if x = 1 then 1 else if x = 2 then 3 else if x = 3 then 5 else 0
def ramN (x : Int) : Int := if x = 1 then 2048 else if x = 2 then 8192 else if x = 3 then 32768 else if x = 4 then 131072 else if x = 5 then 65536 else 0
def bankN (x : Int) : Int := 2 + bits .and .i64 x 65535 % 64
theorem kindN_of (x : Int) : kindN x = 0 ∨ kindN x = 1 ∨ kindN x = 3 ∨ kindN x = 5 := by
  unfold kindN
  repeat' split
  all_goals omega
theorem ramN_bd (x : Int) : 0 ≤ ramN x ∧ ramN x ≤ 131072 := by
  unfold ramN
  repeat' split
  all_goals omega
theorem bankN_bd (x : Int) : 2 ≤ bankN x ∧ bankN x ≤ 65 := by
  have := and_bd 16 65535 x (by decide) (by omega)
  unfold bankN
  omega

/-- The state of a cart's map. -/
def cartS (kd rom ram : Int) : St := new (kindN (bits .and .i64 kd 3)) (bankN rom) (ramN (bits .and .i64 ram 7))
theorem cartS_ok (kd rom ram : Int) : Ok (cartS kd rom ram) := by
  have h1 := bankN_bd rom
  have h2 := ramN_bd (bits .and .i64 ram 7)
  exact ok_new _ _ _ (kindN_of _) h1.1 (by omega) h2.1 (by omega)

set_option maxRecDepth 100000 in
set_option maxHeartbeats 4000000 in
theorem sizes_any (w : World) (kd rom ram : Int) : Calls Try.prog 17 #[.agg #[.int .i64 kd, .int .i64 rom, .int .i64 ram]] w fun e w' =>
    e = .returned (.tuple #[.int .i64 (kindN (bits .and .i64 kd 3)), .int .i64 (16384 * bankN rom), .int .i64 (ramN (bits .and .i64 ram 7))]) ∧ Fr [] w w' := by
  have h1 := and_bd 2 3 kd (by decide) (by omega)
  have h2 := and_bd 3 7 ram (by decide) (by omega)
  have h3 := and_bd 16 65535 rom (by decide) (by omega)
  unfold bankN
  obtain ⟨K0, hK0⟩ : ∃ y, bits .and .i64 kd 3 = y := ⟨_, rfl⟩
  obtain ⟨R0, hR0⟩ : ∃ y, bits .and .i64 ram 7 = y := ⟨_, rfl⟩
  obtain ⟨B0, hB0⟩ : ∃ y, bits .and .i64 rom 65535 = y := ⟨_, rfl⟩
  rw [hK0] at h1 ⊢
  rw [hR0] at h2 ⊢
  rw [hB0] at h3 ⊢
  obtain ⟨B1, hB1⟩ : ∃ y, B0 % 64 = y := ⟨_, rfl⟩
  have hB1' : B0.tmod 64 = B1 := by rw [Int.tmod_eq_emod_of_nonneg h3.1]; exact hB1
  obtain ⟨B2, hB2⟩ : ∃ y, 2 + B1 = y := ⟨_, rfl⟩
  obtain ⟨B3, hB3⟩ : ∃ y, 16384 * B2 = y := ⟨_, rfl⟩
  rw [hB1, hB2, hB3]
  have q0 : 0 ≤ B1 := by omega
  have q1 : B1 < 64 := by omega
  have q2 : 0 ≤ B2 := by omega
  have q3 : B2 < 66 := by omega
  have q4 : 0 ≤ B3 := by omega
  have q5 : B3 < 2000000 := by omega
  clear hB1
  have hal : Fr [] w (w.alloc (.cells #[.int .i64 kd, .int .i64 rom, .int .i64 ram] 23)) := (Fr.refl [] w).alloc _
  have hbl := Blk.fresh w 23 #[.int .i64 kd, .int .i64 rom, .int .i64 ram]
  have HAL := Lib.hid hal
  have HBL := Lib.hid hbl
  clear hal hbl
  have hk : K0 = 0 ∨ K0 = 1 ∨ K0 = 2 ∨ K0 = 3 := by omega
  have hr : R0 = 0 ∨ R0 = 1 ∨ R0 = 2 ∨ R0 = 3 ∨ R0 = 4 ∨ R0 = 5 ∨ R0 = 6 ∨ R0 = 7 := by omega
  clear h1 h2 h3
  obtain rfl | rfl | rfl | rfl := hk
  all_goals
    obtain rfl | rfl | rfl | rfl | rfl | rfl | rfl | rfl := hr
    all_goals
      simp only [kindN, ramN, Int.reduceEq, if_true, if_false]
      go_enter Try.func17, Try.ntmps17
      go_upto_region 1 with fail
      generalize w.alloc _ = w1 at *
      obtain ⟨z, hz⟩ : ∃ z, w.heap.size = z := ⟨_, rfl⟩
      rw [hz] at HBL ⊢
      clear hz
      have d0 := HBL.out.cell 0
      have d1 := HBL.out.cell 1
      have d2 := HBL.out.cell 2
      simp at d0 d1 d2
      go_upto_region 21 with fail
      go_quiet (fail)
      go_wp2
      go_ret3
      exact ⟨rfl, HAL.out.drewN _⟩

/-- Both maps. -/
def Both (w : World) (S : St) (e : Ending) (w' : World) : Prop :=
  ∃ p q, e = .returned (.tuple #[.pointer (some ⟨p, 0, none⟩), .pointer (some ⟨q, 0, none⟩)]) ∧ ProgAt w' p S ∧ RefAt w' q S ∧ Fr [] w w' ∧ w.heap.size ≤ p ∧ w.heap.size ≤ q

/-- So many noughts. -/
def zs (n : Nat) : Array Value := (bv (List.replicate n 0)).toArray
theorem make_z (z : Int) (n : Nat) (hz : z = (n : Int)) (hn : n ≤ 1000000000) (w : World) : (Instr.makeSlice 44 (.int .i64 z) (.int .i64 z)).run Try.prog w = .ok (.slice (some ⟨w.heap.size, 0, none⟩) n n) (w.alloc (.cells (zs n) 5)) := by
  subst hz
  exact Mi.make_i64 n hn w

set_option maxRecDepth 100000 in
set_option maxHeartbeats 4000000 in
theorem made_any (w : World) (kd rom ram : Int) : Calls Try.prog 9 #[.agg #[.int .i64 kd, .int .i64 rom, .int .i64 ram]] w (Both w (cartS kd rom ram)) := by
  have hS : cartS kd rom ram = new (kindN (bits .and .i64 kd 3)) (bankN rom) (ramN (bits .and .i64 ram 7)) := rfl
  have HZ := Lib.hid fun W => sizes_any W kd rom ram
  have hk := kindN_of (bits .and .i64 kd 3)
  have hb := bankN_bd rom
  have hr := ramN_bd (bits .and .i64 ram 7)
  generalize kindN (bits .and .i64 kd 3) = K at *
  generalize bankN rom = B at *
  generalize ramN (bits .and .i64 ram 7) = R at *
  generalize cartS kd rom ram = S at *
  obtain ⟨N, hN⟩ : ∃ y, 16384 * B = y := ⟨_, rfl⟩
  obtain ⟨n, hn⟩ : ∃ n : Nat, N = (n : Int) := ⟨N.toNat, by omega⟩
  have m1 := make_z N n hn (by omega)
  have HN : Hid (∀ W w1 A, Fr [] w1 W → Calls Try.prog 16 #[.agg #[.int .i64 K, .slice A n n, .int .i64 R]] W (fun e w' => ∃ p, e = .returned (.tuple #[.pointer (some ⟨p, 0, none⟩), .int .i64 0]) ∧ ProgAt w' p S ∧ Fr [] w1 w' ∧ w1.heap.size ≤ p)) := Lib.hid (by
    intro W w1 A hW
    rw [hS]
    exact (new_ok W K R B A n n hk (by omega) (by omega) hb.1 hr.1).mono fun e w' ⟨p, g1, g2, g3, g4⟩ => ⟨p, g1, g2, hW.tr g3, Nat.le_trans hW.size g4⟩)
  have HR : Hid (∀ W, Calls Try.prog 18 #[.int .i64 K, .int .i64 N, .int .i64 R] W fun e w' => e = .returned (.pointer (some ⟨W.heap.size, 0, none⟩)) ∧ RefAt w' W.heap.size S ∧ Fr [] W w') := Lib.hid fun W => by
    rw [hS]
    exact rnew_any W K B N R hN.symm (by omega) (by omega)
  rw [hN] at HZ
  have hal : Fr [] w (w.alloc (.cells #[.int .i64 kd, .int .i64 rom, .int .i64 ram] 23)) := (Fr.refl [] w).alloc _
  have HAL := Lib.hid hal
  clear hS hal hN hn hk hb hr
  go_enter Try.func9, Try.ntmps9
  go_upto_region 1 with fail
  have hbl := Blk.fresh w 23 #[.int .i64 kd, .int .i64 rom, .int .i64 ram]
  generalize w.alloc _ = w1 at *
  have d0 := hbl.cell 0
  have d1 := hbl.cell 1
  have d2 := hbl.cell 2
  simp at d0 d1 d2
  clear hbl
  go_wp2_with fail
  (with_reducible refine (HZ.out _).mono ?_)
  rintro e w2 ⟨rfl, hf⟩
  have HF2 := Lib.hid (HAL.out.tr hf)
  clear hf d0 d1 d2 HAL HZ
  go_wp2_with fail
  (with_reducible refine (HN.out _ w2 _ ((Fr.refl [] _).alloc _)).mono ?_)
  rintro e w3 ⟨p, rfl, hp, hf, hl⟩
  have HP := Lib.hid hp
  have HF3 := Lib.hid (HF2.out.tr hf)
  have hl2 : w.heap.size ≤ p := Nat.le_trans HF2.out.size hl
  clear hp hf hl HN m1 HF2
  go_wp2_with fail
  (with_reducible refine (HR.out _).mono ?_)
  rintro e w4 ⟨rfl, hr, hf⟩
  have HR4 := Lib.hid hr
  have HF4 := Lib.hid hf
  have hz := HF3.out.size
  clear hr hf
  go_wp2
  go_ret2
  exact ⟨p, _, rfl, HP.out.fr HF4.out (by simp), HR4.out, HF3.out.tr HF4.out, hl2, hz⟩

end Gm
end Go.Proofs.Ytglnpgdigdfjiaa
