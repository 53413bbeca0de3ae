/-
  Contract of the document's own Parse of layer 10 (picklockref10): it tells the same as gbhead's. Condition: lengths as of slices.
-/
import Derived.Test.YthomlnaabkfcpaaDoorGbParse
namespace Go.Proofs.YthomlnaabkfcpaaDoor
open Go.RowKit
namespace Gb

theorem romN_two (i : Nat) : romN (i + 1) = romN i * 2 := by unfold romN; rw [Nat.pow_succ]; omega
theorem romN_zero : romN 0 = 32768 := rfl

section
variable (w : World) (A : Option Addr) (n c : Nat) (l : List UInt8)

set_option maxRecDepth 100000 in
set_option maxHeartbeats 2000000 in
theorem rb_large (h : 16777216 < n) : Calls Tryd.prog 12 #[.slice A n c] w (Refused w 6) := by
  have h1 : (16777216 : Int) < n := by omega
  obtain ⟨z, hz⟩ : ∃ z, w.heap.size = z := ⟨_, rfl⟩
  have hb0 := Blk.fresh w 34 #[.int .i64 0, .slice none 0 0, .int .i64 0]
  rw [hz] at hb0
  have HF0 := Lib.hid ((Fr.refl [] w).alloc (.cells #[.int .i64 0, .slice none 0 0, .int .i64 0] 34))
  obtain ⟨q0, q1, q2⟩ := blk3 hb0
  have f0 := hb0.frozen 0
  have f1 := hb0.frozen 1
  have f2 := hb0.frozen 2
  have HB0 := Lib.hid hb0
  clear hb0
  go_enter Tryd.func12, Tryd.ntmps12
  go_upto_region 1 with fail
  generalize w.alloc _ = w0 at *
  go_wp2
  have HBq : Hid (Blk (w0) z 34 #[.int .i64 0, .slice none 0 0, .int .i64 0]) := HB0
  have HB9 := Lib.hid (three_put HBq.out (.int .i64 0) (.slice none 0 0) (.int .i64 0))
  have HF9 := Lib.hid (three_fr (w0) z (.int .i64 0) (.slice none 0 0) (.int .i64 0))
  have HFq : Hid (Fr [] w (w0)) := Lib.hid HF0.out
  have hf := HFq.out.trans (S := []) HF9.out (by simp; omega)
  obtain ⟨z0, z1, z2⟩ := blk3 HB9.out
  generalize (((w0).setCell ⟨z, 0, none⟩ _).setCell ⟨z, 1, none⟩ _).setCell ⟨z, 2, none⟩ _ = w9 at *
  exact bodyPost_ret (v := .tuple #[zeroCt, .int .i64 _]) (by simp [results, Tryd.results12, go_sem, z0, z1, z2, zeroCt]) rfl ⟨rfl, hf⟩

set_option maxRecDepth 100000 in
set_option maxHeartbeats 2000000 in
theorem rb_short (h : n < 32768) : Calls Tryd.prog 12 #[.slice A n c] w (Refused w 2) := by
  have h1 : ¬ (16777216 : Int) < n := by omega
  have h2 : (n : Int) < 32768 := by omega
  obtain ⟨z, hz⟩ : ∃ z, w.heap.size = z := ⟨_, rfl⟩
  have hb0 := Blk.fresh w 34 #[.int .i64 0, .slice none 0 0, .int .i64 0]
  rw [hz] at hb0
  have HF0 := Lib.hid ((Fr.refl [] w).alloc (.cells #[.int .i64 0, .slice none 0 0, .int .i64 0] 34))
  obtain ⟨q0, q1, q2⟩ := blk3 hb0
  have f0 := hb0.frozen 0
  have f1 := hb0.frozen 1
  have f2 := hb0.frozen 2
  have HB0 := Lib.hid hb0
  clear hb0
  go_enter Tryd.func12, Tryd.ntmps12
  go_upto_region 1 with fail
  generalize w.alloc _ = w0 at *
  go_wp2
  have HBq : Hid (Blk (w0) z 34 #[.int .i64 0, .slice none 0 0, .int .i64 0]) := HB0
  have HB9 := Lib.hid (three_put HBq.out (.int .i64 0) (.slice none 0 0) (.int .i64 0))
  have HF9 := Lib.hid (three_fr (w0) z (.int .i64 0) (.slice none 0 0) (.int .i64 0))
  have HFq : Hid (Fr [] w (w0)) := Lib.hid HF0.out
  have hf := HFq.out.trans (S := []) HF9.out (by simp; omega)
  obtain ⟨z0, z1, z2⟩ := blk3 HB9.out
  generalize (((w0).setCell ⟨z, 0, none⟩ _).setCell ⟨z, 1, none⟩ _).setCell ⟨z, 2, none⟩ _ = w9 at *
  exact bodyPost_ret (v := .tuple #[zeroCt, .int .i64 _]) (by simp [results, Tryd.results12, go_sem, z0, z1, z2, zeroCt]) rfl ⟨rfl, hf⟩

set_option maxRecDepth 100000 in
set_option maxHeartbeats 2000000 in
theorem rb_sum (hn : l.length = n) (hl : n ≤ 16777216) (h : 32768 ≤ n) (hr : Rd w A l) (hs : bt l 333 ≠ gsum l) : Calls Tryd.prog 12 #[.slice A n c] w (Refused w 4) := by
  have h1 : ¬ (16777216 : Int) < n := by omega
  have h2 : ¬ (n : Int) < 32768 := by omega
  have t333 : (333 : Int) < n := by omega
  have t327 : (327 : Int) < n := by omega
  have t328 : (328 : Int) < n := by omega
  have t329 : (329 : Int) < n := by omega
  have HS : Hid (∀ W, Fr [] w W → Calls Tryd.prog 10 #[.slice A n c] W fun e w' => e = .returned (.int .u8 (gsum l : Int)) ∧ w' = W) := Lib.hid fun W hW => (rsum_any W A n c l hn (hr.later hW (by simp)) (by omega)).mono fun e w' ⟨h1, h2⟩ => ⟨h1, h2.symm⟩
  obtain ⟨b, o, rfl, hcell⟩ := hr (by omega)
  have c0 := hcell 327 (by omega)
  have c1 := hcell 328 (by omega)
  have c2 := hcell 329 (by omega)
  have c3 := hcell 333 (by omega)
  rw [← bt_get] at c0 c1 c2 c3
  obtain ⟨y0, hy0⟩ : ∃ y : Int, (bt l 327 : Int) = y := ⟨_, rfl⟩
  obtain ⟨y1, hy1⟩ : ∃ y : Int, (bt l 328 : Int) = y := ⟨_, rfl⟩
  obtain ⟨y2, hy2⟩ : ∃ y : Int, (bt l 329 : Int) = y := ⟨_, rfl⟩
  obtain ⟨y3, hy3⟩ : ∃ y : Int, (bt l 333 : Int) = y := ⟨_, rfl⟩
  have hy1b : wrap64 y1 = y1 := by have := bt_lt l 328; unfold wrap64; omega
  rw [hy0] at c0
  rw [hy1] at c1
  rw [hy2] at c2
  rw [hy3] at c3
  clear hr hcell
  obtain ⟨s, hs'⟩ : ∃ s : Int, (gsum l : Int) = s := ⟨_, rfl⟩
  have t2 : (s == y3) = false := by rw [beq_eq_false_iff_ne]; omega
  have t3 : (s != y3) = true := by rw [bne_iff_ne]; omega
  rw [hs'] at HS
  clear hs hs' hy3 hy0 hy1 hy2
  obtain ⟨z, hz⟩ : ∃ z, w.heap.size = z := ⟨_, rfl⟩
  have hb0 := Blk.fresh w 34 #[.int .i64 0, .slice none 0 0, .int .i64 0]
  rw [hz] at hb0
  have HF0 := Lib.hid ((Fr.refl [] w).alloc (.cells #[.int .i64 0, .slice none 0 0, .int .i64 0] 34))
  obtain ⟨q0, q1, q2⟩ := blk3 hb0
  have f0 := hb0.frozen 0
  have f1 := hb0.frozen 1
  have f2 := hb0.frozen 2
  have HB0 := Lib.hid hb0
  have d0 := HF0.out.cell c0 (by simp)
  have d1 := HF0.out.cell c1 (by simp)
  have d2 := HF0.out.cell c2 (by simp)
  have d3 := HF0.out.cell c3 (by simp)
  clear c0 c1 c2 c3
  clear hb0
  go_enter Tryd.func12, Tryd.ntmps12
  go_upto_region 1 with fail
  generalize w.alloc _ = w0 at *
  go_upto_region 5 with fail
  go_quiet (first | (go_at_call 10; with_reducible exact Calls.quiet_of_same (HS.out _ (HF0.out.drewN _))))
  go_wp2_with fail
  have HBq : Hid (Blk (w0.drewN nq) z 34 #[.int .i64 0, .slice none 0 0, .int .i64 0]) := HB0
  have HB9 := Lib.hid (three_put HBq.out (.int .i64 0) (.slice none 0 0) (.int .i64 0))
  have HF9 := Lib.hid (three_fr (w0.drewN nq) z (.int .i64 0) (.slice none 0 0) (.int .i64 0))
  have HFq : Hid (Fr [] w (w0.drewN nq)) := Lib.hid (HF0.out.drewN nq)
  have hf := HFq.out.trans (S := []) HF9.out (by simp; omega)
  obtain ⟨z0, z1, z2⟩ := blk3 HB9.out
  generalize (((w0.drewN nq).setCell ⟨z, 0, none⟩ _).setCell ⟨z, 1, none⟩ _).setCell ⟨z, 2, none⟩ _ = w9 at *
  exact bodyPost_ret (v := .tuple #[zeroCt, .int .i64 _]) (by simp [results, Tryd.results12, go_sem, z0, z1, z2, zeroCt]) rfl ⟨rfl, hf⟩

set_option maxRecDepth 100000 in
set_option maxHeartbeats 2000000 in
theorem rb_mapper (hn : l.length = n) (hl : n ≤ 16777216) (h : 32768 ≤ n) (hr : Rd w A l) (hs : bt l 333 = gsum l) (hk : kindN (bt l 327) = 9) : Calls Tryd.prog 12 #[.slice A n c] w (Refused w 7) := by
  have h1 : ¬ (16777216 : Int) < n := by omega
  have h2 : ¬ (n : Int) < 32768 := by omega
  have t333 : (333 : Int) < n := by omega
  have t327 : (327 : Int) < n := by omega
  have t328 : (328 : Int) < n := by omega
  have t329 : (329 : Int) < n := by omega
  have HS : Hid (∀ W, Fr [] w W → Calls Tryd.prog 10 #[.slice A n c] W fun e w' => e = .returned (.int .u8 (gsum l : Int)) ∧ w' = W) := Lib.hid fun W hW => (rsum_any W A n c l hn (hr.later hW (by simp)) (by omega)).mono fun e w' ⟨h1, h2⟩ => ⟨h1, h2.symm⟩
  obtain ⟨b, o, rfl, hcell⟩ := hr (by omega)
  have c0 := hcell 327 (by omega)
  have c1 := hcell 328 (by omega)
  have c2 := hcell 329 (by omega)
  have c3 := hcell 333 (by omega)
  rw [← bt_get] at c0 c1 c2 c3
  obtain ⟨y0, hy0⟩ : ∃ y : Int, (bt l 327 : Int) = y := ⟨_, rfl⟩
  obtain ⟨y1, hy1⟩ : ∃ y : Int, (bt l 328 : Int) = y := ⟨_, rfl⟩
  obtain ⟨y2, hy2⟩ : ∃ y : Int, (bt l 329 : Int) = y := ⟨_, rfl⟩
  obtain ⟨y3, hy3⟩ : ∃ y : Int, (bt l 333 : Int) = y := ⟨_, rfl⟩
  have hy1b : wrap64 y1 = y1 := by have := bt_lt l 328; unfold wrap64; omega
  rw [hy0] at c0
  rw [hy1] at c1
  rw [hy2] at c2
  rw [hy3] at c3
  clear hr hcell
  rw [← hs, hy3] at HS
  have HK : Hid (∀ W, Calls Tryd.prog 20 #[.int .u8 y0] W fun e w' => e = .returned (.int .i64 (-1)) ∧ W = w') := Lib.hid fun W => by
    have := rkind_any W (bt l 327)
    rw [if_pos hk, hy0] at this
    exact this
  clear hs hy3 hy0 hy1 hy2 hk
  obtain ⟨z, hz⟩ : ∃ z, w.heap.size = z := ⟨_, rfl⟩
  have hb0 := Blk.fresh w 34 #[.int .i64 0, .slice none 0 0, .int .i64 0]
  rw [hz] at hb0
  have HF0 := Lib.hid ((Fr.refl [] w).alloc (.cells #[.int .i64 0, .slice none 0 0, .int .i64 0] 34))
  obtain ⟨q0, q1, q2⟩ := blk3 hb0
  have f0 := hb0.frozen 0
  have f1 := hb0.frozen 1
  have f2 := hb0.frozen 2
  have HB0 := Lib.hid hb0
  have d0 := HF0.out.cell c0 (by simp)
  have d1 := HF0.out.cell c1 (by simp)
  have d2 := HF0.out.cell c2 (by simp)
  have d3 := HF0.out.cell c3 (by simp)
  clear c0 c1 c2 c3
  clear hb0
  go_enter Tryd.func12, Tryd.ntmps12
  go_upto_region 1 with fail
  generalize w.alloc _ = w0 at *
  go_upto_region 5 with fail
  go_quiet (first | (go_at_call 10; with_reducible exact Calls.quiet_of_same (HS.out _ (HF0.out.drewN _))))
  have HFa := Lib.hid (HF0.out.drewN nq)
  have HBa : Hid (Blk (w0.drewN nq) z 34 #[.int .i64 0, .slice none 0 0, .int .i64 0]) := HB0
  have a0 : (w0.drewN nq).cell? ⟨b, o + 327, none⟩ = some (.int .u8 y0) := d0
  have a1 : (w0.drewN nq).cell? ⟨b, o + 328, none⟩ = some (.int .u8 y1) := d1
  have a2 : (w0.drewN nq).cell? ⟨b, o + 329, none⟩ = some (.int .u8 y2) := d2
  clear d0 d1 d2 d3 q0 q1 q2 f0 f1 f2 HB0 HF0
  generalize w0.drewN nq = wa at *
  obtain ⟨q0, q1, q2⟩ := blk3 HBa.out
  have f0 := HBa.out.frozen 0
  have f1 := HBa.out.frozen 1
  have f2 := HBa.out.frozen 2
  go_wp2_with fail
  (with_reducible refine (HK.out _).mono ?_)
  rintro e w1 ⟨rfl, rfl⟩
  go_wp2_with fail
  have HBq : Hid (Blk (wa) z 34 #[.int .i64 0, .slice none 0 0, .int .i64 0]) := HBa
  have HB9 := Lib.hid (three_put HBq.out (.int .i64 0) (.slice none 0 0) (.int .i64 0))
  have HF9 := Lib.hid (three_fr (wa) z (.int .i64 0) (.slice none 0 0) (.int .i64 0))
  have HFq : Hid (Fr [] w (wa)) := Lib.hid HFa.out
  have hf := HFq.out.trans (S := []) HF9.out (by simp; omega)
  obtain ⟨z0, z1, z2⟩ := blk3 HB9.out
  generalize (((wa).setCell ⟨z, 0, none⟩ _).setCell ⟨z, 1, none⟩ _).setCell ⟨z, 2, none⟩ _ = w9 at *
  exact bodyPost_ret (v := .tuple #[zeroCt, .int .i64 _]) (by simp [results, Tryd.results12, go_sem, z0, z1, z2, zeroCt]) rfl ⟨rfl, hf⟩

set_option maxRecDepth 100000 in
set_option maxHeartbeats 2000000 in
theorem rb_form (hn : l.length = n) (hl : n ≤ 16777216) (h : 32768 ≤ n) (hr : Rd w A l) (hs : bt l 333 = gsum l) (hk : kindN (bt l 327) ≠ 9) (hu : unfit (kindN (bt l 327)) (bt l 328) (bt l 329)) : Calls Tryd.prog 12 #[.slice A n c] w (Refused w 3) := by
  have h1 : ¬ (16777216 : Int) < n := by omega
  have h2 : ¬ (n : Int) < 32768 := by omega
  have t333 : (333 : Int) < n := by omega
  have t327 : (327 : Int) < n := by omega
  have t328 : (328 : Int) < n := by omega
  have t329 : (329 : Int) < n := by omega
  have HS : Hid (∀ W, Fr [] w W → Calls Tryd.prog 10 #[.slice A n c] W fun e w' => e = .returned (.int .u8 (gsum l : Int)) ∧ w' = W) := Lib.hid fun W hW => (rsum_any W A n c l hn (hr.later hW (by simp)) (by omega)).mono fun e w' ⟨h1, h2⟩ => ⟨h1, h2.symm⟩
  obtain ⟨b, o, rfl, hcell⟩ := hr (by omega)
  have c0 := hcell 327 (by omega)
  have c1 := hcell 328 (by omega)
  have c2 := hcell 329 (by omega)
  have c3 := hcell 333 (by omega)
  rw [← bt_get] at c0 c1 c2 c3
  obtain ⟨y0, hy0⟩ : ∃ y : Int, (bt l 327 : Int) = y := ⟨_, rfl⟩
  obtain ⟨y1, hy1⟩ : ∃ y : Int, (bt l 328 : Int) = y := ⟨_, rfl⟩
  obtain ⟨y2, hy2⟩ : ∃ y : Int, (bt l 329 : Int) = y := ⟨_, rfl⟩
  obtain ⟨y3, hy3⟩ : ∃ y : Int, (bt l 333 : Int) = y := ⟨_, rfl⟩
  have hy1b : wrap64 y1 = y1 := by have := bt_lt l 328; unfold wrap64; omega
  rw [hy0] at c0
  rw [hy1] at c1
  rw [hy2] at c2
  rw [hy3] at c3
  clear hr hcell
  rw [← hs, hy3] at HS
  obtain ⟨K, hK⟩ : ∃ K : Int, (kindN (bt l 327) : Int) = K := ⟨_, rfl⟩
  have HK : Hid (∀ W, Calls Tryd.prog 20 #[.int .u8 y0] W fun e w' => e = .returned (.int .i64 K) ∧ W = w') := Lib.hid fun W => by
    have := rkind_any W (bt l 327)
    rw [if_neg hk, hy0, hK] at this
    exact this
  have hK0 : ¬ K < 0 := by omega
  have hway : (8 < y1) ∨ (¬ 8 < y1 ∧ 5 < y2) ∨ (¬ 8 < y1 ∧ ¬ 5 < y2 ∧ K = 0 ∧ 0 < y1) := by unfold unfit at hu; omega
  clear hs hy3 hy0 hy1 hy2 hk hu hK
  obtain ⟨z, hz⟩ : ∃ z, w.heap.size = z := ⟨_, rfl⟩
  have hb0 := Blk.fresh w 34 #[.int .i64 0, .slice none 0 0, .int .i64 0]
  rw [hz] at hb0
  have HF0 := Lib.hid ((Fr.refl [] w).alloc (.cells #[.int .i64 0, .slice none 0 0, .int .i64 0] 34))
  obtain ⟨q0, q1, q2⟩ := blk3 hb0
  have f0 := hb0.frozen 0
  have f1 := hb0.frozen 1
  have f2 := hb0.frozen 2
  have HB0 := Lib.hid hb0
  have d0 := HF0.out.cell c0 (by simp)
  have d1 := HF0.out.cell c1 (by simp)
  have d2 := HF0.out.cell c2 (by simp)
  have d3 := HF0.out.cell c3 (by simp)
  clear c0 c1 c2 c3
  clear hb0
  go_enter Tryd.func12, Tryd.ntmps12
  go_upto_region 1 with fail
  generalize w.alloc _ = w0 at *
  go_upto_region 5 with fail
  go_quiet (first | (go_at_call 10; with_reducible exact Calls.quiet_of_same (HS.out _ (HF0.out.drewN _))))
  have HFa := Lib.hid (HF0.out.drewN nq)
  have HBa : Hid (Blk (w0.drewN nq) z 34 #[.int .i64 0, .slice none 0 0, .int .i64 0]) := HB0
  have a0 : (w0.drewN nq).cell? ⟨b, o + 327, none⟩ = some (.int .u8 y0) := d0
  have a1 : (w0.drewN nq).cell? ⟨b, o + 328, none⟩ = some (.int .u8 y1) := d1
  have a2 : (w0.drewN nq).cell? ⟨b, o + 329, none⟩ = some (.int .u8 y2) := d2
  clear d0 d1 d2 d3 q0 q1 q2 f0 f1 f2 HB0 HF0
  generalize w0.drewN nq = wa at *
  obtain ⟨q0, q1, q2⟩ := blk3 HBa.out
  have f0 := HBa.out.frozen 0
  have f1 := HBa.out.frozen 1
  have f2 := HBa.out.frozen 2
  go_wp2_with fail
  (with_reducible refine (HK.out _).mono ?_)
  rintro e w1 ⟨rfl, rfl⟩
  rcases hway with hway | ⟨hw1, hw2⟩ | ⟨hw1, hw2, rfl, hw3⟩
  all_goals
    go_wp2_with fail
    have HBq : Hid (Blk (wa) z 34 #[.int .i64 0, .slice none 0 0, .int .i64 0]) := HBa
    have HB9 := Lib.hid (three_put HBq.out (.int .i64 0) (.slice none 0 0) (.int .i64 0))
    have HF9 := Lib.hid (three_fr (wa) z (.int .i64 0) (.slice none 0 0) (.int .i64 0))
    have HFq : Hid (Fr [] w (wa)) := Lib.hid HFa.out
    have hf := HFq.out.trans (S := []) HF9.out (by simp; omega)
    obtain ⟨z0, z1, z2⟩ := blk3 HB9.out
    generalize (((wa).setCell ⟨z, 0, none⟩ _).setCell ⟨z, 1, none⟩ _).setCell ⟨z, 2, none⟩ _ = w9 at *
    exact bodyPost_ret (v := .tuple #[zeroCt, .int .i64 _]) (by simp [results, Tryd.results12, go_sem, z0, z1, z2, zeroCt]) rfl ⟨rfl, hf⟩

set_option maxRecDepth 100000 in
set_option maxHeartbeats 2000000 in
theorem rb_cut (hn : l.length = n) (hl : n ≤ 16777216) (h : 32768 ≤ n) (hr : Rd w A l) (hs : bt l 333 = gsum l) (hk : kindN (bt l 327) ≠ 9) (hu : ¬ unfit (kindN (bt l 327)) (bt l 328) (bt l 329)) (hc : n < romN (bt l 328)) : Calls Tryd.prog 12 #[.slice A n c] w (Refused w 2) := by
  have h1 : ¬ (16777216 : Int) < n := by omega
  have h2 : ¬ (n : Int) < 32768 := by omega
  have t333 : (333 : Int) < n := by omega
  have t327 : (327 : Int) < n := by omega
  have t328 : (328 : Int) < n := by omega
  have t329 : (329 : Int) < n := by omega
  have HS : Hid (∀ W, Fr [] w W → Calls Tryd.prog 10 #[.slice A n c] W fun e w' => e = .returned (.int .u8 (gsum l : Int)) ∧ w' = W) := Lib.hid fun W hW => (rsum_any W A n c l hn (hr.later hW (by simp)) (by omega)).mono fun e w' ⟨h1, h2⟩ => ⟨h1, h2.symm⟩
  obtain ⟨b, o, rfl, hcell⟩ := hr (by omega)
  have c0 := hcell 327 (by omega)
  have c1 := hcell 328 (by omega)
  have c2 := hcell 329 (by omega)
  have c3 := hcell 333 (by omega)
  rw [← bt_get] at c0 c1 c2 c3
  obtain ⟨y0, hy0⟩ : ∃ y : Int, (bt l 327 : Int) = y := ⟨_, rfl⟩
  obtain ⟨y1, hy1⟩ : ∃ y : Int, (bt l 328 : Int) = y := ⟨_, rfl⟩
  obtain ⟨y2, hy2⟩ : ∃ y : Int, (bt l 329 : Int) = y := ⟨_, rfl⟩
  obtain ⟨y3, hy3⟩ : ∃ y : Int, (bt l 333 : Int) = y := ⟨_, rfl⟩
  have hy1b : wrap64 y1 = y1 := by have := bt_lt l 328; unfold wrap64; omega
  rw [hy0] at c0
  rw [hy1] at c1
  rw [hy2] at c2
  rw [hy3] at c3
  clear hr hcell
  rw [← hs, hy3] at HS
  obtain ⟨K, hK⟩ : ∃ K : Int, (kindN (bt l 327) : Int) = K := ⟨_, rfl⟩
  have HK : Hid (∀ W, Calls Tryd.prog 20 #[.int .u8 y0] W fun e w' => e = .returned (.int .i64 K) ∧ W = w') := Lib.hid fun W => by
    have := rkind_any W (bt l 327)
    rw [if_neg hk, hy0, hK] at this
    exact this
  have hK0 : ¬ K < 0 := by omega
  have hway : (K == 0) = false ∨ ((K == 0) = true ∧ ¬ 0 < y1) := by
    by_cases hz : K = 0
    · refine .inr ⟨by simpa using hz, ?_⟩; unfold unfit at hu; omega
    · refine .inl ?_; rw [beq_eq_false_iff_ne]; exact hz
  have hu1 : ¬ 8 < y1 := by unfold unfit at hu; omega
  have hu2 : ¬ 5 < y2 := by unfold unfit at hu; omega
  obtain ⟨N, hN⟩ : ∃ N, bt l 328 = N := ⟨_, rfl⟩
  rw [hN] at hc hy1
  clear hs hy3 hy0 hy2 hk hu hK hN
  obtain ⟨z, hz⟩ : ∃ z, w.heap.size = z := ⟨_, rfl⟩
  have hb0 := Blk.fresh w 34 #[.int .i64 0, .slice none 0 0, .int .i64 0]
  rw [hz] at hb0
  have HF0 := Lib.hid ((Fr.refl [] w).alloc (.cells #[.int .i64 0, .slice none 0 0, .int .i64 0] 34))
  obtain ⟨q0, q1, q2⟩ := blk3 hb0
  have f0 := hb0.frozen 0
  have f1 := hb0.frozen 1
  have f2 := hb0.frozen 2
  have HB0 := Lib.hid hb0
  have d0 := HF0.out.cell c0 (by simp)
  have d1 := HF0.out.cell c1 (by simp)
  have d2 := HF0.out.cell c2 (by simp)
  have d3 := HF0.out.cell c3 (by simp)
  clear c0 c1 c2 c3
  clear hb0
  go_enter Tryd.func12, Tryd.ntmps12
  go_upto_region 1 with fail
  generalize w.alloc _ = w0 at *
  go_upto_region 5 with fail
  go_quiet (first | (go_at_call 10; with_reducible exact Calls.quiet_of_same (HS.out _ (HF0.out.drewN _))))
  have HFa := Lib.hid (HF0.out.drewN nq)
  have HBa : Hid (Blk (w0.drewN nq) z 34 #[.int .i64 0, .slice none 0 0, .int .i64 0]) := HB0
  have a0 : (w0.drewN nq).cell? ⟨b, o + 327, none⟩ = some (.int .u8 y0) := d0
  have a1 : (w0.drewN nq).cell? ⟨b, o + 328, none⟩ = some (.int .u8 y1) := d1
  have a2 : (w0.drewN nq).cell? ⟨b, o + 329, none⟩ = some (.int .u8 y2) := d2
  clear d0 d1 d2 d3 q0 q1 q2 f0 f1 f2 HB0 HF0
  generalize w0.drewN nq = wa at *
  obtain ⟨q0, q1, q2⟩ := blk3 HBa.out
  have f0 := HBa.out.frozen 0
  have f1 := HBa.out.frozen 1
  have f2 := HBa.out.frozen 2
  go_wp2_with fail
  (with_reducible refine (HK.out _).mono ?_)
  rintro e w1 ⟨rfl, rfl⟩
  rcases hway with hway | ⟨hway, hway2⟩
  all_goals
    go_wp2_with fail
    go_loopw [6, 7] (fun s6 s7 wr => ∃ i : Nat, s6 = .int .i64 (romN i : Int) ∧ s7 = .int .i64 (i : Int) ∧ i ≤ N ∧ wr = wa) (fun _ s7 _ => N - (intOf s7).toNat)
    case atStart => exact ⟨0, rfl, rfl, Nat.zero_le _, rfl⟩
    case round =>
      obtain ⟨i, rfl, rfl, hi, rfl⟩ := hrel
      by_cases hlt : i < N
      · have h3 : (i : Int) < y1 := by omega
        have h4 : (0 : Int) ≤ i := by omega
        have hr1 := romN_two i
        have hr2 := romN_le i (by omega)
        obtain ⟨q, hq⟩ : ∃ q, romN i = q := ⟨_, rfl⟩
        rw [hq] at hr1 hr2 ⊢
        go_wp2_with fail
        go_roundw
        case rel =>
          refine ⟨i + 1, ?_, by go_num, by omega, trivial⟩
          rw [hr1]
          go_num
        case measure => simp [intOf]; omega
      · obtain rfl : i = N := by omega
        have h3 : ¬ (i : Int) < y1 := by omega
        have hcc : (n : Int) < (romN i : Int) := by omega
        generalize (romN i : Int) = R at *
        go_wp2_with fail
        have HBq : Hid (Blk (wr) z 34 #[.int .i64 0, .slice none 0 0, .int .i64 0]) := HBa
        have HB9 := Lib.hid (three_put HBq.out (.int .i64 0) (.slice none 0 0) (.int .i64 0))
        have HF9 := Lib.hid (three_fr (wr) z (.int .i64 0) (.slice none 0 0) (.int .i64 0))
        have HFq : Hid (Fr [] w (wr)) := Lib.hid HFa.out
        have hf := HFq.out.trans (S := []) HF9.out (by simp; omega)
        obtain ⟨z0, z1, z2⟩ := blk3 HB9.out
        generalize (((wr).setCell ⟨z, 0, none⟩ _).setCell ⟨z, 1, none⟩ _).setCell ⟨z, 2, none⟩ _ = w9 at *
        exact bodyPost_ret (v := .tuple #[zeroCt, .int .i64 _]) (by simp [results, Tryd.results12, go_sem, z0, z1, z2, zeroCt]) rfl ⟨rfl, hf⟩

set_option maxRecDepth 100000 in
set_option maxHeartbeats 2000000 in
theorem rparse_ok (hn : l.length = n) (hnc : n ≤ c) (hr : Rd w A l) (hb : fault l = 0) : Calls Tryd.prog 12 #[.slice A n c] w (Outcome w l) := by
  obtain ⟨i0, hi0, hz0, hz1, hz2⟩ := info_parts info5
  obtain ⟨h, hl, hs, hk, hu1, hu2, hu3, hp⟩ := fault_ok l hb
  rw [hn] at h hl hp
  have HRl := Lib.hid hr
  have h1 : ¬ (16777216 : Int) < n := by omega
  have h2 : ¬ (n : Int) < 32768 := by omega
  have t333 : (333 : Int) < n := by omega
  have t327 : (327 : Int) < n := by omega
  have t328 : (328 : Int) < n := by omega
  have t329 : (329 : Int) < n := by omega
  have HS : Hid (∀ W, Fr [] w W → Calls Tryd.prog 10 #[.slice A n c] W fun e w' => e = .returned (.int .u8 (gsum l : Int)) ∧ w' = W) := Lib.hid fun W hW => (rsum_any W A n c l hn (hr.later hW (by simp)) (by omega)).mono fun e w' ⟨h1, h2⟩ => ⟨h1, h2.symm⟩
  obtain ⟨b, o, rfl, hcell⟩ := hr (by omega)
  have c0 := hcell 327 (by omega)
  have c1 := hcell 328 (by omega)
  have c2 := hcell 329 (by omega)
  have c3 := hcell 333 (by omega)
  rw [← bt_get] at c0 c1 c2 c3
  obtain ⟨y0, hy0⟩ : ∃ y : Int, (bt l 327 : Int) = y := ⟨_, rfl⟩
  obtain ⟨y1, hy1⟩ : ∃ y : Int, (bt l 328 : Int) = y := ⟨_, rfl⟩
  obtain ⟨y2, hy2⟩ : ∃ y : Int, (bt l 329 : Int) = y := ⟨_, rfl⟩
  obtain ⟨y3, hy3⟩ : ∃ y : Int, (bt l 333 : Int) = y := ⟨_, rfl⟩
  have hy1b : wrap64 y1 = y1 := by have := bt_lt l 328; unfold wrap64; omega
  rw [hy0] at c0
  rw [hy1] at c1
  rw [hy2] at c2
  rw [hy3] at c3
  clear hr hcell
  rw [← hs, hy3] at HS
  obtain ⟨K, hK⟩ : ∃ K : Int, (kindN (bt l 327) : Int) = K := ⟨_, rfl⟩
  have HK : Hid (∀ W, Calls Tryd.prog 20 #[.int .u8 y0] W fun e w' => e = .returned (.int .i64 K) ∧ W = w') := Lib.hid fun W => by
    have := rkind_any W (bt l 327)
    rw [if_neg hk, hy0, hK] at this
    exact this
  have hK0 : ¬ K < 0 := by omega
  have hway : (K == 0) = false ∨ ((K == 0) = true ∧ ¬ 0 < y1) := by
    by_cases hz : K = 0
    · exact .inr ⟨by simpa using hz, by omega⟩
    · refine .inl ?_; rw [beq_eq_false_iff_ne]; exact hz
  have hu1' : ¬ 8 < y1 := by omega
  have hu2' : ¬ 5 < y2 := by omega
  obtain ⟨M, hM⟩ : ∃ M : Int, (ramN (bt l 329) : Int) = M := ⟨_, rfl⟩
  obtain ⟨N, hN⟩ : ∃ N, bt l 328 = N := ⟨_, rfl⟩
  have hge := romN_ge N
  obtain ⟨p, hpp⟩ : ∃ p, romN N = p := ⟨_, rfl⟩
  have hpp' : romN (bt l 328) = p := by rw [hN]; exact hpp
  rw [hpp'] at hp
  rw [hpp] at hge
  have HQ : Hid (∀ W A1 c1, Own W w.heap.size (.slice A1 p c1) (l.take p) → Fr [] w W → Outcome w l (.returned (.tuple #[.agg #[.int .i64 K, .slice A1 p c1, .int .i64 M], .int .i64 0])) W) := Lib.hid fun W A1 c1 ho hf => by
    refine ⟨_, by rw [hb]; rfl, ?_, hf⟩
    unfold ctOf
    rw [if_pos hb]
    unfold cartOf
    refine ⟨A1, c1, ?_, by simp only [hpp']; exact ho.rd, fun ad he => ?_⟩
    · simp only [hpp']
      rw [hK, hM, List.length_take, hn, Nat.min_eq_left hp]
    · subst he
      exact (ho.lt ad.block (by simp [Value.ownBlock])).1
  have HL : Hid ((l.take p).length = p) := Lib.hid (by rw [List.length_take]; omega)
  have hlt' : ¬ (n : Int) < p := by omega
  have hlt'' : p ≤ n := by omega
  have hpc : (p : Int) ≤ c := by omega
  have hpc' : p ≤ c := by omega
  have hp2 : p ≤ 2000000000 := by omega
  have hp0 : 0 < p := by omega
  have hram : (y2 = 0 ∧ M = 0) ∨ (y2 = 1 ∧ M = 2048) ∨ (y2 = 2 ∧ M = 8192) ∨ (y2 = 3 ∧ M = 32768) ∨ (y2 = 4 ∧ M = 131072) ∨ (y2 = 5 ∧ M = 65536) := by
    have hr5 : bt l 329 = 0 ∨ bt l 329 = 1 ∨ bt l 329 = 2 ∨ bt l 329 = 3 ∨ bt l 329 = 4 ∨ bt l 329 = 5 := by omega
    rcases hr5 with e | e | e | e | e | e <;> (rw [e] at hM hy2; simp [ramN] at hM hy2; omega)
  have hyN : (N : Int) = y1 := by rw [← hN]; exact hy1
  have hN8 : N ≤ 8 := by omega
  have HRam := Lib.hid hram
  have HPp := Lib.hid hpp
  generalize Outcome w l = QQ at *
  clear hs hy3 hy0 hy1 hy2 hk hK hM hb hu1 hu2 hu3 hpp hpp' hge hn hp hN hram
  obtain ⟨z, hz⟩ : ∃ z, w.heap.size = z := ⟨_, rfl⟩
  have hb0 := Blk.fresh w 34 #[.int .i64 0, .slice none 0 0, .int .i64 0]
  rw [hz] at hb0
  have HF0 := Lib.hid ((Fr.refl [] w).alloc (.cells #[.int .i64 0, .slice none 0 0, .int .i64 0] 34))
  obtain ⟨q0, q1, q2⟩ := blk3 hb0
  have f0 := hb0.frozen 0
  have f1 := hb0.frozen 1
  have f2 := hb0.frozen 2
  have HB0 := Lib.hid hb0
  have d0 := HF0.out.cell c0 (by simp)
  have d1 := HF0.out.cell c1 (by simp)
  have d2 := HF0.out.cell c2 (by simp)
  have d3 := HF0.out.cell c3 (by simp)
  clear c0 c1 c2 c3
  clear hb0
  go_enter Tryd.func12, Tryd.ntmps12
  go_upto_region 1 with fail
  generalize w.alloc _ = w0 at *
  go_upto_region 5 with fail
  go_quiet (first | (go_at_call 10; with_reducible exact Calls.quiet_of_same (HS.out _ (HF0.out.drewN _))))
  have HFa := Lib.hid (HF0.out.drewN nq)
  have HBa : Hid (Blk (w0.drewN nq) z 34 #[.int .i64 0, .slice none 0 0, .int .i64 0]) := HB0
  have a0 : (w0.drewN nq).cell? ⟨b, o + 327, none⟩ = some (.int .u8 y0) := d0
  have a1 : (w0.drewN nq).cell? ⟨b, o + 328, none⟩ = some (.int .u8 y1) := d1
  have a2 : (w0.drewN nq).cell? ⟨b, o + 329, none⟩ = some (.int .u8 y2) := d2
  clear d0 d1 d2 d3 q0 q1 q2 f0 f1 f2 HB0 HF0
  generalize w0.drewN nq = wa at *
  obtain ⟨q0, q1, q2⟩ := blk3 HBa.out
  have f0 := HBa.out.frozen 0
  have f1 := HBa.out.frozen 1
  have f2 := HBa.out.frozen 2
  go_wp2_with fail
  (with_reducible refine (HK.out _).mono ?_)
  rintro e w1 ⟨rfl, rfl⟩
  rcases hway with hway | ⟨hway, hway2⟩
  all_goals
    go_wp2_with fail
    go_loopw [6, 7] (fun s6 s7 wr => ∃ i : Nat, s6 = .int .i64 (romN i : Int) ∧ s7 = .int .i64 (i : Int) ∧ i ≤ N ∧ wr = wa) (fun _ s7 _ => N - (intOf s7).toNat)
    case atStart => exact ⟨0, rfl, rfl, Nat.zero_le _, rfl⟩
    case round =>
      obtain ⟨i, rfl, rfl, hi, rfl⟩ := hrel
      by_cases hlt : i < N
      · have h3 : (i : Int) < y1 := by omega
        have h4 : (0 : Int) ≤ i := by omega
        have hr1 := romN_two i
        have hr2 := romN_le i (by omega)
        obtain ⟨q, hq⟩ : ∃ q, romN i = q := ⟨_, rfl⟩
        rw [hq] at hr1 hr2 ⊢
        go_wp2_with fail
        go_roundw
        case rel =>
          refine ⟨i + 1, ?_, by go_num, by omega, trivial⟩
          rw [hr1]
          go_num
        case measure => simp [intOf]; omega
      · obtain rfl : i = N := by omega
        have h3 : ¬ (i : Int) < y1 := by omega
        rw [HPp.out]
        go_upto_region 21 with fail
        rcases HRam.out with ⟨rfl, rfl⟩ | ⟨rfl, rfl⟩ | ⟨rfl, rfl⟩ | ⟨rfl, rfl⟩ | ⟨rfl, rfl⟩ | ⟨rfl, rfl⟩
        · go_wp2_with (at_builtin; refine wpList_appN _ rfl _ _ 26 rfl wr.heap.size i0 Tryd.underlying26 hi0 hz0 hz1 hz2 (.slice (some ⟨wr.heap.size, 0, none⟩) 0 0) [] 0 rfl rfl (Own.empty wr _ (Nat.le_refl _)) (some ⟨b, o, none⟩) p c (l.take p) rfl HL.out (rd_take (HRl.out.later (HFa.out.alloc _) (by simp)) p) (by simp) (by omega) (by simp) ?_)
          intro A1 c1 w3 ho1 hf1 _
          have hf1' : Fr [] wr w3 := ((Fr.refl [] wr).alloc (.cells #[] 5)).trans hf1 (by simp [Value.ownBlock])
          have hzq := HBa.out.lt
          have hwq := HFa.out.size
          have HB3 := Lib.hid (HBa.out.fr hf1' (by simp))
          have HF3 := Lib.hid (HFa.out.tr hf1')
          have HO3 := Lib.hid ho1
          have HO3' := Lib.hid (own_mono ho1 hwq)
          clear ho1 hf1 hf1' q0 q1 q2 f0 f1 f2
          obtain ⟨q0, q1, q2⟩ := blk3 HB3.out
          have f0 := HB3.out.frozen 0
          have f1 := HB3.out.frozen 1
          have f2 := HB3.out.frozen 2
          have HB9 := Lib.hid (three_put HB3.out (.int .i64 K) (.slice A1 p c1) (.int .i64 0))
          have hf9 := three_fr w3 z (.int .i64 K) (.slice A1 p c1) (.int .i64 0)
          have HF9 := Lib.hid hf9
          have HO9 := Lib.hid (HO3'.out.fr hf9 (fun k hk hm => by simp at hm; subst hm; exact HO3.out.other HB3.out (by decide) hk))
          clear hf9
          go_wp2_with fail
          have hf := HF3.out.trans (S := []) HF9.out (by simp; omega)
          obtain ⟨z0, z1, z2⟩ := blk3 HB9.out
          generalize ((w3.setCell ⟨z, 0, none⟩ _).setCell ⟨z, 1, none⟩ _).setCell ⟨z, 2, none⟩ _ = w9 at *
          exact bodyPost_ret (v := .tuple #[.agg #[.int .i64 K, .slice A1 p c1, .int .i64 0], .int .i64 0]) (by simp [results, Tryd.results12, go_sem, z0, z1, z2]) rfl (HQ.out _ _ _ HO9.out hf)
        · go_wp2_with (at_builtin; refine wpList_appN _ rfl _ _ 26 rfl wr.heap.size i0 Tryd.underlying26 hi0 hz0 hz1 hz2 (.slice (some ⟨wr.heap.size, 0, none⟩) 0 0) [] 0 rfl rfl (Own.empty wr _ (Nat.le_refl _)) (some ⟨b, o, none⟩) p c (l.take p) rfl HL.out (rd_take (HRl.out.later (HFa.out.alloc _) (by simp)) p) (by simp) (by omega) (by simp) ?_)
          intro A1 c1 w3 ho1 hf1 _
          have hf1' : Fr [] wr w3 := ((Fr.refl [] wr).alloc (.cells #[] 5)).trans hf1 (by simp [Value.ownBlock])
          have hzq := HBa.out.lt
          have hwq := HFa.out.size
          have HB3 := Lib.hid (HBa.out.fr hf1' (by simp))
          have HF3 := Lib.hid (HFa.out.tr hf1')
          have HO3 := Lib.hid ho1
          have HO3' := Lib.hid (own_mono ho1 hwq)
          clear ho1 hf1 hf1' q0 q1 q2 f0 f1 f2
          obtain ⟨q0, q1, q2⟩ := blk3 HB3.out
          have f0 := HB3.out.frozen 0
          have f1 := HB3.out.frozen 1
          have f2 := HB3.out.frozen 2
          have HB9 := Lib.hid (three_put HB3.out (.int .i64 K) (.slice A1 p c1) (.int .i64 2048))
          have hf9 := three_fr w3 z (.int .i64 K) (.slice A1 p c1) (.int .i64 2048)
          have HF9 := Lib.hid hf9
          have HO9 := Lib.hid (HO3'.out.fr hf9 (fun k hk hm => by simp at hm; subst hm; exact HO3.out.other HB3.out (by decide) hk))
          clear hf9
          go_wp2_with fail
          have hf := HF3.out.trans (S := []) HF9.out (by simp; omega)
          obtain ⟨z0, z1, z2⟩ := blk3 HB9.out
          generalize ((w3.setCell ⟨z, 0, none⟩ _).setCell ⟨z, 1, none⟩ _).setCell ⟨z, 2, none⟩ _ = w9 at *
          exact bodyPost_ret (v := .tuple #[.agg #[.int .i64 K, .slice A1 p c1, .int .i64 2048], .int .i64 0]) (by simp [results, Tryd.results12, go_sem, z0, z1, z2]) rfl (HQ.out _ _ _ HO9.out hf)
        · go_wp2_with (at_builtin; refine wpList_appN _ rfl _ _ 26 rfl wr.heap.size i0 Tryd.underlying26 hi0 hz0 hz1 hz2 (.slice (some ⟨wr.heap.size, 0, none⟩) 0 0) [] 0 rfl rfl (Own.empty wr _ (Nat.le_refl _)) (some ⟨b, o, none⟩) p c (l.take p) rfl HL.out (rd_take (HRl.out.later (HFa.out.alloc _) (by simp)) p) (by simp) (by omega) (by simp) ?_)
          intro A1 c1 w3 ho1 hf1 _
          have hf1' : Fr [] wr w3 := ((Fr.refl [] wr).alloc (.cells #[] 5)).trans hf1 (by simp [Value.ownBlock])
          have hzq := HBa.out.lt
          have hwq := HFa.out.size
          have HB3 := Lib.hid (HBa.out.fr hf1' (by simp))
          have HF3 := Lib.hid (HFa.out.tr hf1')
          have HO3 := Lib.hid ho1
          have HO3' := Lib.hid (own_mono ho1 hwq)
          clear ho1 hf1 hf1' q0 q1 q2 f0 f1 f2
          obtain ⟨q0, q1, q2⟩ := blk3 HB3.out
          have f0 := HB3.out.frozen 0
          have f1 := HB3.out.frozen 1
          have f2 := HB3.out.frozen 2
          have HB9 := Lib.hid (three_put HB3.out (.int .i64 K) (.slice A1 p c1) (.int .i64 8192))
          have hf9 := three_fr w3 z (.int .i64 K) (.slice A1 p c1) (.int .i64 8192)
          have HF9 := Lib.hid hf9
          have HO9 := Lib.hid (HO3'.out.fr hf9 (fun k hk hm => by simp at hm; subst hm; exact HO3.out.other HB3.out (by decide) hk))
          clear hf9
          go_wp2_with fail
          have hf := HF3.out.trans (S := []) HF9.out (by simp; omega)
          obtain ⟨z0, z1, z2⟩ := blk3 HB9.out
          generalize ((w3.setCell ⟨z, 0, none⟩ _).setCell ⟨z, 1, none⟩ _).setCell ⟨z, 2, none⟩ _ = w9 at *
          exact bodyPost_ret (v := .tuple #[.agg #[.int .i64 K, .slice A1 p c1, .int .i64 8192], .int .i64 0]) (by simp [results, Tryd.results12, go_sem, z0, z1, z2]) rfl (HQ.out _ _ _ HO9.out hf)
        · go_wp2_with (at_builtin; refine wpList_appN _ rfl _ _ 26 rfl wr.heap.size i0 Tryd.underlying26 hi0 hz0 hz1 hz2 (.slice (some ⟨wr.heap.size, 0, none⟩) 0 0) [] 0 rfl rfl (Own.empty wr _ (Nat.le_refl _)) (some ⟨b, o, none⟩) p c (l.take p) rfl HL.out (rd_take (HRl.out.later (HFa.out.alloc _) (by simp)) p) (by simp) (by omega) (by simp) ?_)
          intro A1 c1 w3 ho1 hf1 _
          have hf1' : Fr [] wr w3 := ((Fr.refl [] wr).alloc (.cells #[] 5)).trans hf1 (by simp [Value.ownBlock])
          have hzq := HBa.out.lt
          have hwq := HFa.out.size
          have HB3 := Lib.hid (HBa.out.fr hf1' (by simp))
          have HF3 := Lib.hid (HFa.out.tr hf1')
          have HO3 := Lib.hid ho1
          have HO3' := Lib.hid (own_mono ho1 hwq)
          clear ho1 hf1 hf1' q0 q1 q2 f0 f1 f2
          obtain ⟨q0, q1, q2⟩ := blk3 HB3.out
          have f0 := HB3.out.frozen 0
          have f1 := HB3.out.frozen 1
          have f2 := HB3.out.frozen 2
          have HB9 := Lib.hid (three_put HB3.out (.int .i64 K) (.slice A1 p c1) (.int .i64 32768))
          have hf9 := three_fr w3 z (.int .i64 K) (.slice A1 p c1) (.int .i64 32768)
          have HF9 := Lib.hid hf9
          have HO9 := Lib.hid (HO3'.out.fr hf9 (fun k hk hm => by simp at hm; subst hm; exact HO3.out.other HB3.out (by decide) hk))
          clear hf9
          go_wp2_with fail
          have hf := HF3.out.trans (S := []) HF9.out (by simp; omega)
          obtain ⟨z0, z1, z2⟩ := blk3 HB9.out
          generalize ((w3.setCell ⟨z, 0, none⟩ _).setCell ⟨z, 1, none⟩ _).setCell ⟨z, 2, none⟩ _ = w9 at *
          exact bodyPost_ret (v := .tuple #[.agg #[.int .i64 K, .slice A1 p c1, .int .i64 32768], .int .i64 0]) (by simp [results, Tryd.results12, go_sem, z0, z1, z2]) rfl (HQ.out _ _ _ HO9.out hf)
        · go_wp2_with (at_builtin; refine wpList_appN _ rfl _ _ 26 rfl wr.heap.size i0 Tryd.underlying26 hi0 hz0 hz1 hz2 (.slice (some ⟨wr.heap.size, 0, none⟩) 0 0) [] 0 rfl rfl (Own.empty wr _ (Nat.le_refl _)) (some ⟨b, o, none⟩) p c (l.take p) rfl HL.out (rd_take (HRl.out.later (HFa.out.alloc _) (by simp)) p) (by simp) (by omega) (by simp) ?_)
          intro A1 c1 w3 ho1 hf1 _
          have hf1' : Fr [] wr w3 := ((Fr.refl [] wr).alloc (.cells #[] 5)).trans hf1 (by simp [Value.ownBlock])
          have hzq := HBa.out.lt
          have hwq := HFa.out.size
          have HB3 := Lib.hid (HBa.out.fr hf1' (by simp))
          have HF3 := Lib.hid (HFa.out.tr hf1')
          have HO3 := Lib.hid ho1
          have HO3' := Lib.hid (own_mono ho1 hwq)
          clear ho1 hf1 hf1' q0 q1 q2 f0 f1 f2
          obtain ⟨q0, q1, q2⟩ := blk3 HB3.out
          have f0 := HB3.out.frozen 0
          have f1 := HB3.out.frozen 1
          have f2 := HB3.out.frozen 2
          have HB9 := Lib.hid (three_put HB3.out (.int .i64 K) (.slice A1 p c1) (.int .i64 131072))
          have hf9 := three_fr w3 z (.int .i64 K) (.slice A1 p c1) (.int .i64 131072)
          have HF9 := Lib.hid hf9
          have HO9 := Lib.hid (HO3'.out.fr hf9 (fun k hk hm => by simp at hm; subst hm; exact HO3.out.other HB3.out (by decide) hk))
          clear hf9
          go_wp2_with fail
          have hf := HF3.out.trans (S := []) HF9.out (by simp; omega)
          obtain ⟨z0, z1, z2⟩ := blk3 HB9.out
          generalize ((w3.setCell ⟨z, 0, none⟩ _).setCell ⟨z, 1, none⟩ _).setCell ⟨z, 2, none⟩ _ = w9 at *
          exact bodyPost_ret (v := .tuple #[.agg #[.int .i64 K, .slice A1 p c1, .int .i64 131072], .int .i64 0]) (by simp [results, Tryd.results12, go_sem, z0, z1, z2]) rfl (HQ.out _ _ _ HO9.out hf)
        · go_wp2_with (at_builtin; refine wpList_appN _ rfl _ _ 26 rfl wr.heap.size i0 Tryd.underlying26 hi0 hz0 hz1 hz2 (.slice (some ⟨wr.heap.size, 0, none⟩) 0 0) [] 0 rfl rfl (Own.empty wr _ (Nat.le_refl _)) (some ⟨b, o, none⟩) p c (l.take p) rfl HL.out (rd_take (HRl.out.later (HFa.out.alloc _) (by simp)) p) (by simp) (by omega) (by simp) ?_)
          intro A1 c1 w3 ho1 hf1 _
          have hf1' : Fr [] wr w3 := ((Fr.refl [] wr).alloc (.cells #[] 5)).trans hf1 (by simp [Value.ownBlock])
          have hzq := HBa.out.lt
          have hwq := HFa.out.size
          have HB3 := Lib.hid (HBa.out.fr hf1' (by simp))
          have HF3 := Lib.hid (HFa.out.tr hf1')
          have HO3 := Lib.hid ho1
          have HO3' := Lib.hid (own_mono ho1 hwq)
          clear ho1 hf1 hf1' q0 q1 q2 f0 f1 f2
          obtain ⟨q0, q1, q2⟩ := blk3 HB3.out
          have f0 := HB3.out.frozen 0
          have f1 := HB3.out.frozen 1
          have f2 := HB3.out.frozen 2
          have HB9 := Lib.hid (three_put HB3.out (.int .i64 K) (.slice A1 p c1) (.int .i64 65536))
          have hf9 := three_fr w3 z (.int .i64 K) (.slice A1 p c1) (.int .i64 65536)
          have HF9 := Lib.hid hf9
          have HO9 := Lib.hid (HO3'.out.fr hf9 (fun k hk hm => by simp at hm; subst hm; exact HO3.out.other HB3.out (by decide) hk))
          clear hf9
          go_wp2_with fail
          have hf := HF3.out.trans (S := []) HF9.out (by simp; omega)
          obtain ⟨z0, z1, z2⟩ := blk3 HB9.out
          generalize ((w3.setCell ⟨z, 0, none⟩ _).setCell ⟨z, 1, none⟩ _).setCell ⟨z, 2, none⟩ _ = w9 at *
          exact bodyPost_ret (v := .tuple #[.agg #[.int .i64 K, .slice A1 p c1, .int .i64 65536], .int .i64 0]) (by simp [results, Tryd.results12, go_sem, z0, z1, z2]) rfl (HQ.out _ _ _ HO9.out hf)
end

end Gb
end Go.Proofs.YthomlnaabkfcpaaDoor
