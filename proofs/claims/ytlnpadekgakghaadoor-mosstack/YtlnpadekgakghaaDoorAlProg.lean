/-
  What package alu tells. Condition: bytes are bytes.
-/
import Derived.Test.YtlnpadekgakghaaDoorAlMath
import Derived.Test.YtlnpadekgakghaaDoorRows
import Derived.Laws.Tables
import Derived.Laws.StructEq
import Derived.WalkLawsBesides
import Derived.WalkSpells
import Derived.IntWalk
import Derived.StillTailTactics
import Derived.Deep.Cut
import Derived.Deep.RegionLaw
import Derived.Deep.RegionHeld3
import Derived.Deep.DeepCutAuto
import Derived.WalkMore
import Derived.BigQuiet
import Derived.OwnWalk
namespace Go.Proofs.YtlnpadekgakghaaDoor
open Go.RowKit
namespace Al

theorem i8_sg : ∀ v, byte v → IntKind.i8.wrap v = sg v := of_byte _ (by decide +kernel)
theorem shl1 : ∀ v, byte v → IntKind.u8.wrap (v * 2) = 2 * v % 256 := of_byte _ (by decide +kernel)
theorem or1 (v : Int) (h : byte v) : bits .or .u8 (2 * v % 256) 1 = (2 * v + 1) % 256 := of_byte (fun v => bits .or .u8 (2 * v % 256) 1 = (2 * v + 1) % 256) (by decide +kernel) v h
theorem or128 (v : Int) (h : byte v) : bits .or .u8 (v / 2) 128 = v / 2 + 128 := of_byte (fun v => bits .or .u8 (v / 2) 128 = v / 2 + 128) (by decide +kernel) v h
theorem xor255 (v : Int) (h : byte v) : bits .xor .u8 255 v = 255 - v := of_byte (fun v => bits .xor .u8 255 v = 255 - v) (by decide +kernel) v h
theorem bit7 (v : Int) (h : byte v) : (bits .and .u8 (v / 128) 1 == 1) = bitN v := of_byte (fun v => (bits .and .u8 (v / 128) 1 == 1) = bitN v) (by decide +kernel) v h
theorem bit6 (v : Int) (h : byte v) : (bits .and .u8 (v / 64) 1 == 1) = bitO v := of_byte (fun v => (bits .and .u8 (v / 64) 1 == 1) = bitO v) (by decide +kernel) v h
theorem bit0 (v : Int) (h : byte v) : (bits .and .u8 v 1 == 1) = rightC v := of_byte (fun v => (bits .and .u8 v 1 == 1) = rightC v) (by decide +kernel) v h

theorem two {k : IntKind} {x y : Int} {b c : Bool} (h : x = y) (g : b = c) : Ending.returned (.tuple #[.int k x, .bool b]) = Ending.returned (.tuple #[.int k y, .bool c]) := by rw [h, g]

set_option maxRecDepth 100000 in
set_option maxHeartbeats 2000000 in
theorem sum_u8 (w : World) (a v : Int) (c : Bool) (ha : byte a) (hv : byte v) :
    Calls Tryd.prog 84 #[.int .u8 a, .int .u8 v, .bool c] w fun e w' => e = .returned (.tuple #[.int .u8 (addR a v c), .bool (addC a v c)]) ∧ w = w' := by
  obtain ⟨a0, a1⟩ := ha
  obtain ⟨v0, v1⟩ := hv
  cases c
  · go_enter Tryd.func84, Tryd.ntmps84
    go_wp2
    go_ret2
    refine ⟨two (by simp [addR, tr]) ?_, rfl⟩
    rw [Bool.eq_iff_iff]
    simp [addC, tr]
    omega
  · go_enter Tryd.func84, Tryd.ntmps84
    go_wp2
    go_ret2
    refine ⟨two (by simp [addR, tr]) ?_, rfl⟩
    rw [Bool.eq_iff_iff]
    simp [addC, tr]
    omega

theorem wrap_far (x : Int) (h0 : -1000 ≤ x) (h1 : x ≤ 1000) : (wrap64 (IntKind.i8.wrap x) != x) = far x := by
  have hw : IntKind.i8.wrap x = (x + 128) % 256 - 128 := by simp [IntKind.wrap, IntKind.bits, IntKind.signed]; split <;> omega
  have h6 : wrap64 (IntKind.i8.wrap x) = IntKind.i8.wrap x := by unfold wrap64; rw [hw]; omega
  rw [h6, hw, Bool.eq_iff_iff]
  simp [far]
  omega

set_option maxRecDepth 100000 in
set_option maxHeartbeats 2000000 in
theorem sum_i8 (w : World) (a v : Int) (c : Bool) (ha : -128 ≤ a ∧ a ≤ 127) (hv : -128 ≤ v ∧ v ≤ 127) :
    Calls Tryd.prog 85 #[.int .i8 a, .int .i8 v, .bool c] w fun e w' => e = .returned (.tuple #[.int .i8 (IntKind.i8.wrap (a + v + tr c)), .bool (far (a + v + tr c))]) ∧ w = w' := by
  obtain ⟨a0, a1⟩ := ha
  obtain ⟨v0, v1⟩ := hv
  cases c
  · have HE : Hid ((wrap64 (IntKind.i8.wrap (a + v)) != a + v) = far (a + v + tr false)) := Lib.hid (by rw [wrap_far _ (by omega) (by omega)]; simp [tr])
    go_enter Tryd.func85, Tryd.ntmps85
    go_wp2
    go_ret2
    exact ⟨two (by simp [tr]) HE.out, rfl⟩
  · have HE : Hid ((wrap64 (IntKind.i8.wrap (a + v + 1)) != a + v + 1) = far (a + v + tr true)) := Lib.hid (wrap_far _ (by omega) (by omega))
    go_enter Tryd.func85, Tryd.ntmps85
    go_wp2
    go_ret2
    exact ⟨two (by simp [tr]) HE.out, rfl⟩

set_option maxRecDepth 100000 in
set_option maxHeartbeats 2000000 in
theorem add_any (w : World) (a v : Int) (c : Bool) (ha : byte a) (hv : byte v) :
    Calls Tryd.prog 57 #[.int .u8 a, .int .u8 v, .bool c] w fun e w' => e = .returned (.tuple #[.int .u8 (addR a v c), .bool (addC a v c), .bool (addO a v c)]) ∧ w = w' := by
  have HA := Lib.hid ha
  have HV := Lib.hid hv
  have wa := i8_sg a ha
  have wv := i8_sg v hv
  have HSA := Lib.hid (sg_bd a ha)
  have HSV := Lib.hid (sg_bd v hv)
  clear ha hv
  go_enter Tryd.func57, Tryd.ntmps57
  go_wp2_with fail
  (with_reducible refine (sum_u8 _ a v c HA.out HV.out).mono ?_)
  rintro e w1 ⟨rfl, rfl⟩
  go_wp2_with fail
  (with_reducible refine (sum_i8 _ (sg a) (sg v) c HSA.out HSV.out).mono ?_)
  rintro e w1 ⟨rfl, rfl⟩
  go_wp2
  go_ret3
  exact ⟨rfl, rfl⟩

set_option maxRecDepth 100000 in
set_option maxHeartbeats 2000000 in
theorem sub_any (w : World) (a v : Int) (c : Bool) (ha : byte a) (hv : byte v) :
    Calls Tryd.prog 59 #[.int .u8 a, .int .u8 v, .bool c] w fun e w' => e = .returned (.tuple #[.int .u8 (subR a v c), .bool (subC a v c), .bool (subO a v c)]) ∧ w = w' := by
  have HA := Lib.hid ha
  have HT := Lib.hid (turn_byte v hv)
  have hx : bits .xor .u8 IntKind.u8.max v = 255 - v := xor255 v hv
  have HE : Hid (addR a (255 - v) c = subR a v c ∧ addC a (255 - v) c = subC a v c ∧ addO a (255 - v) c = subO a v c) := Lib.hid ⟨addR_turn a v c, addC_turn a v c, addO_turn a v c hv⟩
  clear ha hv
  generalize 255 - v = t at *
  go_enter Tryd.func59, Tryd.ntmps59
  go_wp2_with fail
  (with_reducible refine (add_any _ a t c HA.out HT.out).mono ?_)
  rintro e w1 ⟨rfl, rfl⟩
  rw [HE.out.1, HE.out.2.1, HE.out.2.2]
  go_wp2
  go_ret3
  exact ⟨rfl, rfl⟩

set_option maxRecDepth 100000 in
set_option maxHeartbeats 2000000 in
theorem bit7_any (w : World) (v : Int) (hv : byte v) : Calls Tryd.prog 86 #[.int .u8 v, .int .i64 7] w fun e w' => e = .returned (.bool (bitN v)) ∧ w = w' := by
  have HE := Lib.hid (bit7 v hv)
  have hb := hv
  obtain ⟨v0, v1⟩ := hb
  clear hv
  go_enter Tryd.func86, Tryd.ntmps86
  go_wp2
  go_ret
  exact ⟨congrArg _ (congrArg _ HE.out), rfl⟩

set_option maxRecDepth 100000 in
set_option maxHeartbeats 2000000 in
theorem bit6_any (w : World) (v : Int) (hv : byte v) : Calls Tryd.prog 86 #[.int .u8 v, .int .i64 6] w fun e w' => e = .returned (.bool (bitO v)) ∧ w = w' := by
  have HE := Lib.hid (bit6 v hv)
  have hb := hv
  obtain ⟨v0, v1⟩ := hb
  clear hv
  go_enter Tryd.func86, Tryd.ntmps86
  go_wp2
  go_ret
  exact ⟨congrArg _ (congrArg _ HE.out), rfl⟩

set_option maxRecDepth 100000 in
set_option maxHeartbeats 2000000 in
theorem bit0_any (w : World) (v : Int) (hv : byte v) : Calls Tryd.prog 86 #[.int .u8 v, .int .i64 0] w fun e w' => e = .returned (.bool (rightC v)) ∧ w = w' := by
  have HE := Lib.hid (bit0 v hv)
  have hb := hv
  obtain ⟨v0, v1⟩ := hb
  clear hv
  go_enter Tryd.func86, Tryd.ntmps86
  go_wp2
  go_ret
  exact ⟨congrArg _ (congrArg _ HE.out), rfl⟩

set_option maxRecDepth 100000 in
set_option maxHeartbeats 2000000 in
theorem compare_any (w : World) (a v : Int) (ha : byte a) (hv : byte v) :
    Calls Tryd.prog 61 #[.int .u8 a, .int .u8 v] w fun e w' => e = .returned (.tuple #[.bool (cmpC a v), .bool (cmpZ a v), .bool (cmpN a v)]) ∧ w = w' := by
  have HE : Hid (subC a v true = cmpC a v ∧ (subR a v true == 0) = cmpZ a v ∧ bitN (subR a v true) = cmpN a v) := Lib.hid ⟨sub_cmpC a v, sub_cmpZ a v ha hv, sub_cmpN a v⟩
  have HB : Hid (∀ W, Calls Tryd.prog 86 #[.int .u8 (subR a v true), .int .i64 7] W fun e w' => e = .returned (.bool (cmpN a v)) ∧ W = w') := Lib.hid fun W => by
    rw [← HE.out.2.2]
    exact bit7_any W _ (subR_byte a v true)
  have HS : Hid (∀ W, Calls Tryd.prog 59 #[.int .u8 a, .int .u8 v, .bool true] W fun e w' => e = .returned (.tuple #[.int .u8 (subR a v true), .bool (cmpC a v), .bool (subO a v true)]) ∧ W = w') := Lib.hid fun W => by
    rw [← HE.out.1]
    exact sub_any W a v true ha hv
  have hz := HE.out.2.1
  clear ha hv HE
  generalize cmpC a v = C at *
  generalize cmpZ a v = Z at *
  generalize cmpN a v = N at *
  generalize subR a v true = R at *
  generalize subO a v true = O at *
  go_enter Tryd.func61, Tryd.ntmps61
  go_wp2_with fail
  (with_reducible refine (HS.out _).mono ?_)
  rintro e w1 ⟨rfl, rfl⟩
  go_wp2_with fail
  (with_reducible refine (HB.out _).mono ?_)
  rintro e w1 ⟨rfl, rfl⟩
  go_wp2
  go_ret3
  exact ⟨rfl, rfl⟩

set_option maxRecDepth 100000 in
set_option maxHeartbeats 2000000 in
theorem bits_any (w : World) (a v : Int) (hv : byte v) :
    Calls Tryd.prog 62 #[.int .u8 a, .int .u8 v] w fun e w' => e = .returned (.tuple #[.bool (bitZ a v), .bool (bitN v), .bool (bitO v)]) ∧ w = w' := by
  have H7 := Lib.hid fun W => bit7_any W v hv
  have H6 := Lib.hid fun W => bit6_any W v hv
  have hz : (bits .and .u8 a v == 0) = bitZ a v := rfl
  clear hv
  generalize bitZ a v = Z at *
  generalize bitN v = N at *
  generalize bitO v = O at *
  go_enter Tryd.func62, Tryd.ntmps62
  go_wp2_with fail
  (with_reducible refine (H7.out _).mono ?_)
  rintro e w1 ⟨rfl, rfl⟩
  go_wp2_with fail
  (with_reducible refine (H6.out _).mono ?_)
  rintro e w1 ⟨rfl, rfl⟩
  go_wp2
  go_ret3
  exact ⟨rfl, rfl⟩

set_option maxRecDepth 100000 in
set_option maxHeartbeats 2000000 in
theorem left_any (w : World) (v : Int) (c : Bool) (hv : byte v) :
    Calls Tryd.prog 88 #[.int .u8 v, .bool c] w fun e w' => e = .returned (.tuple #[.int .u8 (leftR v c), .bool (leftC v)]) ∧ w = w' := by
  have HB := Lib.hid fun W => bit7_any W v hv
  have hs := shl1 v hv
  have ho := or1 v hv
  have hb := hv
  obtain ⟨v0, v1⟩ := hb
  have e0 : leftR v false = 2 * v % 256 := by simp [leftR, tr]
  have e1 : leftR v true = (2 * v + 1) % 256 := by simp [leftR, tr]
  cases c
  · rw [e0]
    go_enter Tryd.func88, Tryd.ntmps88
    go_wp2_with fail
    (with_reducible refine (HB.out _).mono ?_)
    rintro e w1 ⟨rfl, rfl⟩
    go_wp2
    go_ret2
    exact ⟨rfl, rfl⟩
  · rw [e1]
    go_enter Tryd.func88, Tryd.ntmps88
    go_wp2_with fail
    (with_reducible refine (HB.out _).mono ?_)
    rintro e w1 ⟨rfl, rfl⟩
    go_wp2
    go_ret2
    exact ⟨rfl, rfl⟩

set_option maxRecDepth 100000 in
set_option maxHeartbeats 2000000 in
theorem right_any (w : World) (v : Int) (c : Bool) (hv : byte v) :
    Calls Tryd.prog 89 #[.int .u8 v, .bool c] w fun e w' => e = .returned (.tuple #[.int .u8 (rightR v c), .bool (rightC v)]) ∧ w = w' := by
  have HB := Lib.hid fun W => bit0_any W v hv
  have ho := or128 v hv
  have hb := hv
  obtain ⟨v0, v1⟩ := hb
  have e0 : rightR v false = v / 2 := by simp [rightR, tr]
  have e1 : rightR v true = v / 2 + 128 := by simp [rightR, tr]
  cases c
  · rw [e0]
    go_enter Tryd.func89, Tryd.ntmps89
    go_wp2_with fail
    (with_reducible refine (HB.out _).mono ?_)
    rintro e w1 ⟨rfl, rfl⟩
    go_wp2
    go_ret2
    exact ⟨rfl, rfl⟩
  · rw [e1]
    go_enter Tryd.func89, Tryd.ntmps89
    go_wp2_with fail
    (with_reducible refine (HB.out _).mono ?_)
    rintro e w1 ⟨rfl, rfl⟩
    go_wp2
    go_ret2
    exact ⟨rfl, rfl⟩

end Al
end Go.Proofs.YtlnpadekgakghaaDoor
