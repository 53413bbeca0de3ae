/-
  What the document's alu tells. Condition: bytes are bytes.
-/
import Derived.Test.YtlnpadekgakghaaDoorAlProg
namespace Go.Proofs.YtlnpadekgakghaaDoor
open Go.RowKit
namespace Al

set_option maxRecDepth 100000 in
set_option maxHeartbeats 2000000 in
theorem rone_any (w : World) (c : Bool) : Calls Tryd.prog 95 #[.bool c] w fun e w' => e = .returned (.int .i64 (tr c)) ∧ w = w' := by
  cases c
  all_goals
    go_enter Tryd.func95, Tryd.ntmps95
    go_wp2
    go_ret
    exact ⟨rfl, rfl⟩

set_option maxRecDepth 100000 in
set_option maxHeartbeats 2000000 in
theorem rsigned_any (w : World) (v : Int) (hv : byte v) : Calls Tryd.prog 96 #[.int .u8 v] w fun e w' => e = .returned (.int .i64 (sg v)) ∧ w = w' := by
  obtain ⟨v0, v1⟩ := hv
  unfold sg
  by_cases h : 128 ≤ v
  · rw [if_pos h]
    go_enter Tryd.func96, Tryd.ntmps96
    go_wp2
    go_ret
    exact ⟨rfl, rfl⟩
  · rw [if_neg h]
    go_enter Tryd.func96, Tryd.ntmps96
    go_wp2
    go_ret
    exact ⟨rfl, rfl⟩

set_option maxRecDepth 100000 in
set_option maxHeartbeats 2000000 in
theorem radd_any (w : World) (a v : Int) (c : Bool) (ha : byte a) (hv : byte v) :
    Calls Tryd.prog 78 #[.int .u8 a, .int .u8 v, .bool c] w fun e w' => e = .returned (.tuple #[.int .u8 (addR a v c), .bool (addC a v c), .bool (addO a v c)]) ∧ w = w' := by
  have HT := Lib.hid fun W => rone_any W c
  have HA := Lib.hid fun W => rsigned_any W a ha
  have HV := Lib.hid fun W => rsigned_any W v hv
  obtain ⟨t0, t1⟩ := tr_bd c
  obtain ⟨x0, x1⟩ := sg_bd a ha
  obtain ⟨y0, y1⟩ := sg_bd v hv
  obtain ⟨a0, a1⟩ := ha
  obtain ⟨v0, v1⟩ := hv
  have hN : addO a v c = far (sg a + sg v + tr c) := rfl
  unfold addR addC
  rw [hN]
  clear hN
  generalize tr c = T at *
  generalize sg a = X at *
  generalize sg v = Y at *
  obtain ⟨N, hN⟩ : ∃ y, X + Y + T = y := ⟨_, rfl⟩
  obtain ⟨S, hS⟩ : ∃ y, a + v + T = y := ⟨_, rfl⟩
  rw [hN, hS]
  have hs0 : 0 ≤ S := by omega
  have hs1 : S < 512 := by omega
  obtain ⟨r, hr⟩ : ∃ y, S % 256 = y := ⟨_, rfl⟩
  have hr' : S.tmod 256 = r := by rw [Int.tmod_eq_emod_of_nonneg hs0]; exact hr
  have hr0 : 0 ≤ r := by omega
  have hr1 : r < 256 := by omega
  have hw : IntKind.u8.wrap r = r := by rw [IntKind.wrap_u8']; omega
  rw [hr]
  have hn0 : -1000 ≤ N := by omega
  have hn1 : N ≤ 1000 := by omega
  have HF : Hid (N < -128 → far N = true) := Lib.hid fun h => by simp [far, h]
  have HG : Hid (¬ N < -128 → decide (127 < N) = far N) := Lib.hid fun h => by simp [far, h]
  generalize far N = FA at *
  by_cases h1 : N < -128
  · obtain rfl := HF.out h1
    go_enter Tryd.func78, Tryd.ntmps78
    go_wp2_with fail
    (with_reducible refine (HT.out _).mono ?_)
    rintro e w1 ⟨rfl, rfl⟩
    go_wp2_with fail
    (with_reducible refine (HA.out _).mono ?_)
    rintro e w1 ⟨rfl, rfl⟩
    go_wp2_with fail
    (with_reducible refine (HV.out _).mono ?_)
    rintro e w1 ⟨rfl, rfl⟩
    go_wp2_with fail
    (with_reducible refine (HT.out _).mono ?_)
    rintro e w1 ⟨rfl, rfl⟩
    go_wp2
    go_ret3
    exact ⟨rfl, rfl⟩
  · have h2 := HG.out h1
    have h3 : decide (N < -128) = false := decide_eq_false h1
    go_enter Tryd.func78, Tryd.ntmps78
    go_wp2_with fail
    (with_reducible refine (HT.out _).mono ?_)
    rintro e w1 ⟨rfl, rfl⟩
    go_wp2_with fail
    (with_reducible refine (HA.out _).mono ?_)
    rintro e w1 ⟨rfl, rfl⟩
    go_wp2_with fail
    (with_reducible refine (HV.out _).mono ?_)
    rintro e w1 ⟨rfl, rfl⟩
    go_wp2_with fail
    (with_reducible refine (HT.out _).mono ?_)
    rintro e w1 ⟨rfl, rfl⟩
    go_wp2
    go_ret3
    exact ⟨rfl, rfl⟩

set_option maxRecDepth 100000 in
set_option maxHeartbeats 2000000 in
theorem rsub_any (w : World) (a v : Int) (c : Bool) (ha : byte a) (hv : byte v) :
    Calls Tryd.prog 80 #[.int .u8 a, .int .u8 v, .bool c] w fun e w' => e = .returned (.tuple #[.int .u8 (subR a v c), .bool (subC a v c), .bool (subO a v c)]) ∧ w = w' := by
  have HT := Lib.hid fun W => rone_any W c
  have HA := Lib.hid fun W => rsigned_any W a ha
  have HV := Lib.hid fun W => rsigned_any W v hv
  obtain ⟨t0, t1⟩ := tr_bd c
  obtain ⟨x0, x1⟩ := sg_bd a ha
  obtain ⟨y0, y1⟩ := sg_bd v hv
  obtain ⟨a0, a1⟩ := ha
  obtain ⟨v0, v1⟩ := hv
  have hN : subO a v c = far (sg a - sg v - 1 + tr c) := rfl
  unfold subR subC
  rw [hN]
  clear hN
  generalize tr c = T at *
  generalize sg a = X at *
  generalize sg v = Y at *
  obtain ⟨N, hN⟩ : ∃ y, X - Y - 1 + T = y := ⟨_, rfl⟩
  obtain ⟨S, hS⟩ : ∃ y, a - v - 1 + T = y := ⟨_, rfl⟩
  rw [hN, hS]
  have hs0 : -256 ≤ S := by omega
  have hs1 : S < 256 := by omega
  obtain ⟨r, hr⟩ : ∃ y, (S + 256) % 256 = y := ⟨_, rfl⟩
  have hr' : (S + 256).tmod 256 = r := by rw [Int.tmod_eq_emod_of_nonneg (by omega)]; exact hr
  have hr0 : 0 ≤ r := by omega
  have hr1 : r < 256 := by omega
  have hw : IntKind.u8.wrap r = r := by rw [IntKind.wrap_u8']; omega
  rw [hr]
  have hn0 : -1000 ≤ N := by omega
  have hn1 : N ≤ 1000 := by omega
  have HF : Hid (N < -128 → far N = true) := Lib.hid fun h => by simp [far, h]
  have HG : Hid (¬ N < -128 → decide (127 < N) = far N) := Lib.hid fun h => by simp [far, h]
  generalize far N = FA at *
  by_cases h1 : N < -128
  · obtain rfl := HF.out h1
    go_enter Tryd.func80, Tryd.ntmps80
    go_wp2_with fail
    (with_reducible refine (HT.out _).mono ?_)
    rintro e w1 ⟨rfl, rfl⟩
    go_wp2_with fail
    (with_reducible refine (HA.out _).mono ?_)
    rintro e w1 ⟨rfl, rfl⟩
    go_wp2_with fail
    (with_reducible refine (HV.out _).mono ?_)
    rintro e w1 ⟨rfl, rfl⟩
    go_wp2_with fail
    (with_reducible refine (HT.out _).mono ?_)
    rintro e w1 ⟨rfl, rfl⟩
    go_wp2
    go_ret3
    exact ⟨rfl, rfl⟩
  · have h2 := HG.out h1
    have h3 : decide (N < -128) = false := decide_eq_false h1
    go_enter Tryd.func80, Tryd.ntmps80
    go_wp2_with fail
    (with_reducible refine (HT.out _).mono ?_)
    rintro e w1 ⟨rfl, rfl⟩
    go_wp2_with fail
    (with_reducible refine (HA.out _).mono ?_)
    rintro e w1 ⟨rfl, rfl⟩
    go_wp2_with fail
    (with_reducible refine (HV.out _).mono ?_)
    rintro e w1 ⟨rfl, rfl⟩
    go_wp2_with fail
    (with_reducible refine (HT.out _).mono ?_)
    rintro e w1 ⟨rfl, rfl⟩
    go_wp2
    go_ret3
    exact ⟨rfl, rfl⟩

set_option maxRecDepth 100000 in
set_option maxHeartbeats 2000000 in
theorem rcompare_any (w : World) (a v : Int) (ha : byte a) (hv : byte v) :
    Calls Tryd.prog 94 #[.int .u8 a, .int .u8 v] w fun e w' => e = .returned (.tuple #[.bool (cmpC a v), .bool (cmpZ a v), .bool (cmpN a v)]) ∧ w = w' := by
  obtain ⟨a0, a1⟩ := ha
  obtain ⟨v0, v1⟩ := hv
  unfold cmpC cmpZ cmpN
  go_enter Tryd.func94, Tryd.ntmps94
  go_wp2
  go_ret3
  exact ⟨rfl, rfl⟩

set_option maxRecDepth 100000 in
set_option maxHeartbeats 2000000 in
theorem rbits_any (w : World) (a v : Int) (hv : byte v) :
    Calls Tryd.prog 75 #[.int .u8 a, .int .u8 v] w fun e w' => e = .returned (.tuple #[.bool (bitZ a v), .bool (bitN v), .bool (bitO v)]) ∧ w = w' := by
  obtain ⟨v0, v1⟩ := hv
  unfold bitN bitO
  have hz : (bits .and .u8 a v == 0) = bitZ a v := rfl
  generalize bitZ a v = Z at *
  go_enter Tryd.func75, Tryd.ntmps75
  go_wp2
  go_ret3
  exact ⟨rfl, rfl⟩

set_option maxRecDepth 100000 in
set_option maxHeartbeats 2000000 in
theorem rleft_any (w : World) (v : Int) (c : Bool) (hv : byte v) :
    Calls Tryd.prog 97 #[.int .u8 v, .bool c] w fun e w' => e = .returned (.tuple #[.int .u8 (leftR v c), .bool (leftC v)]) ∧ w = w' := by
  have HT := Lib.hid fun W => rone_any W c
  obtain ⟨t0, t1⟩ := tr_bd c
  obtain ⟨v0, v1⟩ := hv
  unfold leftR leftC
  generalize tr c = T at *
  obtain ⟨S, hS⟩ : ∃ y, 2 * v + T = y := ⟨_, rfl⟩
  have hs0 : 0 ≤ S := by omega
  have hs1 : S < 512 := by omega
  obtain ⟨r, hr⟩ : ∃ y, S % 256 = y := ⟨_, rfl⟩
  have hr' : S.tmod 256 = r := by rw [Int.tmod_eq_emod_of_nonneg hs0]; exact hr
  have hr0 : 0 ≤ r := by omega
  have hr1 : r < 256 := by omega
  have hw : IntKind.u8.wrap r = r := by rw [IntKind.wrap_u8']; omega
  rw [hS, hr]
  go_enter Tryd.func97, Tryd.ntmps97
  go_wp2_with fail
  (with_reducible refine (HT.out _).mono ?_)
  rintro e w1 ⟨rfl, rfl⟩
  go_wp2
  go_ret2
  exact ⟨rfl, rfl⟩

set_option maxRecDepth 100000 in
set_option maxHeartbeats 2000000 in
theorem rright_any (w : World) (v : Int) (c : Bool) (hv : byte v) :
    Calls Tryd.prog 98 #[.int .u8 v, .bool c] w fun e w' => e = .returned (.tuple #[.int .u8 (rightR v c), .bool (rightC v)]) ∧ w = w' := by
  have HT := Lib.hid fun W => rone_any W c
  obtain ⟨t0, t1⟩ := tr_bd c
  obtain ⟨v0, v1⟩ := hv
  unfold rightR rightC
  generalize tr c = T at *
  obtain ⟨q, hq⟩ : ∃ y, v / 2 = y := ⟨_, rfl⟩
  have hq' : v.tdiv 2 = q := by rw [Int.tdiv_eq_ediv_of_nonneg v0]; exact hq
  have hq0 : 0 ≤ q := by omega
  have hq1 : q < 128 := by omega
  obtain ⟨r, hr⟩ : ∃ y, q + 128 * T = y := ⟨_, rfl⟩
  have hr0 : 0 ≤ r := by omega
  have hr1 : r < 256 := by omega
  have hw : IntKind.u8.wrap r = r := by rw [IntKind.wrap_u8']; omega
  rw [hq, hr]
  go_enter Tryd.func98, Tryd.ntmps98
  go_wp2_with fail
  (with_reducible refine (HT.out _).mono ?_)
  rintro e w1 ⟨rfl, rfl⟩
  go_wp2
  go_ret2
  exact ⟨rfl, rfl⟩

end Al
end Go.Proofs.YtlnpadekgakghaaDoor
