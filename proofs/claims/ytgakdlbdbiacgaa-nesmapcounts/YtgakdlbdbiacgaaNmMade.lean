/-
  picklocklaw11.made: both maps of a cart, in one state. No condition.
-/
import Derived.Test.YtgakdlbdbiacgaaNmNew
import Derived.Test.YtgakdlbdbiacgaaNmRefC
import Derived.Test.YtgakdlbdbiacgaaMakeI
namespace Go.Proofs.Ytgakdlbdbiacgaa
open Go.RowKit
namespace Nm

/-- The lowest bits of a number. -/
def low16 (x : Int) : Int := bits .and .i64 x 65535
theorem low16_bd (n : Int) : 0 ≤ low16 n ∧ low16 n ≤ 65535 := by
  have h : (BitVec.ofInt 64 65535).toNat = 2 ^ 16 - 1 := by decide
  have key : (BitVec.ofInt 64 n &&& BitVec.ofInt 64 65535).toNat = (n % ((2 ^ 64 : Nat) : Int)).toNat % 2 ^ 16 := by
    rw [BitVec.toNat_and, BitVec.toNat_ofInt, h, Nat.and_two_pow_sub_one_eq_mod]
  have e : bits .and .i64 n 65535 = IntKind.i64.wrap ((BitVec.ofInt 64 n &&& BitVec.ofInt 64 65535).toNat : Nat) := rfl
  unfold low16
  rw [e, key, IntKind.wrap_i64]
  omega
theorem and1_bd (n : Int) : 0 ≤ bits .and .i64 n 1 ∧ bits .and .i64 n 1 ≤ 1 := by
  have h : (BitVec.ofInt 64 1).toNat = 2 ^ 1 - 1 := by decide
  have key : (BitVec.ofInt 64 n &&& BitVec.ofInt 64 1).toNat = (n % ((2 ^ 64 : Nat) : Int)).toNat % 2 ^ 1 := by
    rw [BitVec.toNat_and, BitVec.toNat_ofInt, h, Nat.and_two_pow_sub_one_eq_mod]
  have e : bits .and .i64 n 1 = IntKind.i64.wrap ((BitVec.ofInt 64 n &&& BitVec.ofInt 64 1).toNat : Nat) := rfl
  rw [e, key, IntKind.wrap_i64]
  omega

/-- The state of a cart's map. -/
def cartS (mp mir pg un : Int) : St := new (low16 mp % 5) (bits .and .i64 mir 1) (2 * (1 + low16 pg % 16)) (8 * (1 + low16 un % 16))
theorem cartS_ok (mp mir pg un : Int) : Ok (cartS mp mir pg un) := by
  have h1 := low16_bd mp
  have h2 := low16_bd pg
  have h3 := low16_bd un
  have h4 := and1_bd mir
  exact ok_new _ _ _ _ (by omega) (by omega) (by omega) (by omega)

/-- Both maps. -/
def Both (w : World) (S : St) (e : Ending) (w' : World) : Prop :=
  ∃ p g q, e = .returned (.tuple #[.pointer (some ⟨p, 0, none⟩), .pointer (some ⟨q, 0, none⟩)]) ∧ ProgAt w' p g S ∧ RefAt w' q S ∧ Fr [] w w' ∧ w.heap.size ≤ p ∧ w.heap.size ≤ g ∧ w.heap.size ≤ q

/-- So many noughts. -/
def zs (n : Nat) : Array Value := (bv (List.replicate n 0)).toArray
theorem make_z (z : Int) (n : Nat) (hz : z = (n : Int)) (hn : n ≤ 1000000000) (w : World) : (Instr.makeSlice 45 (.int .i64 z) (.int .i64 z)).run Try.prog w = .ok (.slice (some ⟨w.heap.size, 0, none⟩) n n) (w.alloc (.cells (zs n) 5)) := by
  subst hz
  exact Mi.make_i64 n hn w

set_option maxRecDepth 100000 in
set_option maxHeartbeats 4000000 in
theorem made_any (w : World) (mp mir pg un : Int) : Calls Try.prog 10 #[.agg #[.int .i64 mp, .int .i64 mir, .int .i64 pg, .int .i64 un]] w (Both w (cartS mp mir pg un)) := by
  obtain ⟨S, hS⟩ : ∃ S, cartS mp mir pg un = S := ⟨_, rfl⟩
  rw [hS]
  unfold cartS at hS
  obtain ⟨M0, hM0⟩ : ∃ y, low16 mp = y := ⟨_, rfl⟩
  obtain ⟨P0, hP0⟩ : ∃ y, low16 pg = y := ⟨_, rfl⟩
  obtain ⟨U0, hU0⟩ : ∃ y, low16 un = y := ⟨_, rfl⟩
  obtain ⟨R0, hR0⟩ : ∃ y, bits .and .i64 mir 1 = y := ⟨_, rfl⟩
  have h1 := low16_bd mp
  have h2 := low16_bd pg
  have h3 := low16_bd un
  have h4 := and1_bd mir
  rw [hM0] at h1 hS
  rw [hP0] at h2 hS
  rw [hU0] at h3 hS
  rw [hR0] at h4 hS
  unfold low16 at hM0 hP0 hU0
  have tm : ∀ x y : Int, 0 ≤ x → x.tmod y = x % y := fun x y hx => Int.tmod_eq_emod_of_nonneg hx
  obtain ⟨M, hM⟩ : ∃ y, M0 % 5 = y := ⟨_, rfl⟩
  have hM' : M0.tmod 5 = M := by rw [tm _ _ h1.1]; exact hM
  obtain ⟨P, hP⟩ : ∃ y, P0 % 16 = y := ⟨_, rfl⟩
  have hP' : P0.tmod 16 = P := by rw [tm _ _ h2.1]; exact hP
  obtain ⟨U, hU⟩ : ∃ y, U0 % 16 = y := ⟨_, rfl⟩
  have hU' : U0.tmod 16 = U := by rw [tm _ _ h3.1]; exact hU
  obtain ⟨P1, hP1⟩ : ∃ y, 1 + P = y := ⟨_, rfl⟩
  obtain ⟨U1, hU1⟩ : ∃ y, 1 + U = y := ⟨_, rfl⟩
  obtain ⟨P2, hP2⟩ : ∃ y, 16384 * P1 = y := ⟨_, rfl⟩
  obtain ⟨U2, hU2⟩ : ∃ y, 8192 * U1 = y := ⟨_, rfl⟩
  obtain ⟨n, hn⟩ : ∃ n : Nat, P2 = (n : Int) := ⟨P2.toNat, by omega⟩
  obtain ⟨n', hn'⟩ : ∃ n : Nat, U2 = (n : Int) := ⟨U2.toNat, by omega⟩
  have m1 := make_z P2 n hn (by omega)
  have m2 := make_z U2 n' hn' (by omega)
  rw [hM, hP, hU, hP1, hU1] at hS
  have HN : Hid (∀ W w1 A A', Fr [] w1 W → Calls Try.prog 19 #[.agg #[.int .i64 M, .int .i64 R0, .slice A n n, .slice A' n' n', .bool false]] W (fun e w' => ∃ p g, e = .returned (.tuple #[.pointer (some ⟨p, 0, none⟩), .int .i64 0]) ∧ ProgAt w' p g S ∧ Fr [] w1 w' ∧ w1.heap.size ≤ p ∧ w1.heap.size ≤ g)) := Lib.hid (by
    intro W w1 A A' hW
    have hnew := new_ok W M R0 (2 * P1) (8 * U1) A A' n n n' n' false (by omega) (by omega) (by unfold whole; simp; omega) (by unfold whole; simp; omega) (by omega) (by omega) (by omega) (by omega)
    rw [hS] at hnew
    exact hnew.mono fun e w' ⟨p, g, g1, g2, g3, g4, g5⟩ => ⟨p, g, g1, g2, hW.tr g3, Nat.le_trans hW.size g4, Nat.le_trans hW.size g5⟩)
  have HR : Hid (∀ W, Calls Try.prog 21 #[.int .i64 M, .int .i64 R0, .int .i64 P2, .int .i64 U2] W fun e w' => e = .returned (.pointer (some ⟨W.heap.size, 0, none⟩)) ∧ RefAt w' W.heap.size S ∧ Fr [] W w') := Lib.hid fun W => by
    have hnew := rnew_any W M R0 P2 U2 (2 * P1) (8 * U1) (by omega) (by omega) (by omega) (by omega)
    rw [hS] at hnew
    exact hnew
  have hP10 : 1 ≤ P1 := by omega
  have hP11 : P1 ≤ 16 := by omega
  have hU10 : 1 ≤ U1 := by omega
  have hU11 : U1 ≤ 16 := by omega
  have hP0b : 0 ≤ P := by omega
  have hP1b : P ≤ 15 := by omega
  have hU0b : 0 ≤ U := by omega
  have hU1b : U ≤ 15 := by omega
  clear hS h1 h2 h3 h4 tm hM hP hU hn hn'
  have hal : Fr [] w (w.alloc (.cells #[.int .i64 mp, .int .i64 mir, .int .i64 pg, .int .i64 un] 23)) := (Fr.refl [] w).alloc _
  have HAL := Lib.hid hal
  obtain ⟨z, hz⟩ : ∃ z, w.heap.size = z := ⟨_, rfl⟩
  clear hal
  go_enter Try.func10, Try.ntmps10
  go_upto_region 5 with fail
  generalize w.alloc _ = w1 at *
  go_cut [8, 9] (fun s8 s9 wx => ∃ p g, s8 = .pointer (some ⟨p, 0, none⟩) ∧ s9 = .int .i64 0 ∧ ProgAt wx p g S ∧ Fr [] w1 wx ∧ w1.heap.size ≤ p ∧ w1.heap.size ≤ g)
  case first =>
    go_region_held3 (fun _ => True) (first | exact trivial) (first
      | (go_at_call 19; (with_reducible refine (HN.out _ w1 _ _ (by first | with_reducible exact (((Fr.refl [] _).alloc _).alloc _).drew | with_reducible exact (((Fr.refl [] _).alloc _).alloc _))).mono ?_); rintro e wc ⟨p, g, rfl, hp, hf, hg1, hg2⟩; have HP := Lib.hid hp; have HF := Lib.hid hf; have HG1 := Lib.hid hg1; have HG2 := Lib.hid hg2; clear hp hf hg1 hg2))
    all_goals
      go_wp2_with fail
      go_meet
      exact ⟨_, _, rfl, rfl, HP.out, HF.out, HG1.out, HG2.out⟩
  case rest =>
    obtain ⟨p, g, rfl, rfl, hp, hf, hg1, hg2⟩ := hcut
    have HP := Lib.hid hp
    have HF := Lib.hid hf
    have HG1 := Lib.hid hg1
    have HG2 := Lib.hid hg2
    clear hp hf hg1 hg2 HN
    go_wp2_with fail
    (with_reducible refine (HR.out _).mono ?_)
    rintro e w3 ⟨rfl, hr, hf3⟩
    have HR3 := Lib.hid hr
    have HF3 := Lib.hid hf3
    clear hr hf3
    have hz1 := HAL.out.size
    have hz2 := HF.out.size
    go_wp2
    go_ret2
    exact ⟨p, g, _, rfl, HP.out.fr HF3.out (by simp) (by simp), HR3.out, HAL.out.tr (HF.out.tr HF3.out), Nat.le_trans hz1 HG1.out, Nat.le_trans hz1 HG2.out, Nat.le_trans hz1 hz2⟩

end Nm
end Go.Proofs.Ytgakdlbdbiacgaa
