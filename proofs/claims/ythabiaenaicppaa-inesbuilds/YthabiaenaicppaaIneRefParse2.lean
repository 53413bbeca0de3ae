/-
  Contract of the document's own Parse of layer 9 (picklockref09), the rest: it tells the same. Condition: lengths as of slices.
-/
import Derived.Test.YthabiaenaicppaaIneRefParse
import Derived.Deep.DeepCutAuto
namespace Go.Proofs.Ythabiaenaicppaa
open Go.RowKit
namespace Ine

section
variable (w : World) (A : Option Addr) (n c : Nat) (l : List UInt8)

set_option maxRecDepth 100000 in
set_option maxHeartbeats 1000000 in
theorem rb_mapper (hn : l.length = n) (h24 : n ≤ 16777216) (h16 : 16 ≤ n) (hr : Rd w A l) (hm : l.take 4 = mark) (h3 : bt l 7 / 4 % 4 ≠ 2) (h5 : bt l 6 / 8 % 2 ≠ 1) (h6 : bt l 4 ≠ 0) (h8 : 4 < mapper l) :
    Calls Try.prog 11 #[.slice A n c] w (Refused w 7) := by
  have h1 : ¬ (16777216 : Int) < n := by omega
  have h2 : ¬ (n : Int) < 16 := by omega
  obtain ⟨m0, m1, m2, m3⟩ := (take4 l (by omega)).1 hm
  obtain ⟨z, hz⟩ : ∃ z, w.heap.size = z := ⟨_, rfl⟩
  have hb0 := Blk.fresh w 36 #[.int .i64 0, .int .i64 0, .slice none 0 0, .slice none 0 0, .bool false]
  rw [hz] at hb0
  have HF0 := Lib.hid ((Fr.refl [] w).alloc (.cells #[.int .i64 0, .int .i64 0, .slice none 0 0, .slice none 0 0, .bool false] 36))
  have hr0 := hr.later HF0.out (by simp)
  obtain ⟨b, o, rfl, hc⟩ := head_cells hr0 (by omega)
  have d0 := hc 0 (by omega)
  have t0 : (0 : Int) < n := by omega
  have d1 := hc 1 (by omega)
  have t1 : (1 : Int) < n := by omega
  have d2 := hc 2 (by omega)
  have t2 : (2 : Int) < n := by omega
  have d3 := hc 3 (by omega)
  have t3 : (3 : Int) < n := by omega
  have d4 := hc 4 (by omega)
  have t4 : (4 : Int) < n := by omega
  have d5 := hc 5 (by omega)
  have t5 : (5 : Int) < n := by omega
  have d6 := hc 6 (by omega)
  have t6 : (6 : Int) < n := by omega
  have d7 := hc 7 (by omega)
  have t7 : (7 : Int) < n := by omega
  rw [Nat.add_zero] at d0
  clear hr hr0 hc
  obtain ⟨q0, q1, q2, q3, q4⟩ := blk5 hb0
  have f0 := hb0.frozen 0
  have f1 := hb0.frozen 1
  have f2 := hb0.frozen 2
  have f3 := hb0.frozen 3
  have f4 := hb0.frozen 4
  have HB0 := Lib.hid hb0
  clear hb0
  go_enter Try.func11, Try.ntmps11
  go_upto_region 1 with fail
  generalize w.alloc _ = w0 at *
  obtain ⟨y0, hy0⟩ : ∃ y, (bt l 0 : Int) = y := ⟨_, rfl⟩
  rw [hy0] at d0
  have p0 : 0 ≤ y0 := by omega
  have u0 : y0 < 256 := by have := bt_lt l 0; omega
  obtain ⟨y1, hy1⟩ : ∃ y, (bt l 1 : Int) = y := ⟨_, rfl⟩
  rw [hy1] at d1
  have p1 : 0 ≤ y1 := by omega
  have u1 : y1 < 256 := by have := bt_lt l 1; omega
  obtain ⟨y2, hy2⟩ : ∃ y, (bt l 2 : Int) = y := ⟨_, rfl⟩
  rw [hy2] at d2
  have p2 : 0 ≤ y2 := by omega
  have u2 : y2 < 256 := by have := bt_lt l 2; omega
  obtain ⟨y3, hy3⟩ : ∃ y, (bt l 3 : Int) = y := ⟨_, rfl⟩
  rw [hy3] at d3
  have p3 : 0 ≤ y3 := by omega
  have u3 : y3 < 256 := by have := bt_lt l 3; omega
  obtain ⟨y4, hy4⟩ : ∃ y, (bt l 4 : Int) = y := ⟨_, rfl⟩
  rw [hy4] at d4
  have p4 : 0 ≤ y4 := by omega
  have u4 : y4 < 256 := by have := bt_lt l 4; omega
  obtain ⟨y5, hy5⟩ : ∃ y, (bt l 5 : Int) = y := ⟨_, rfl⟩
  rw [hy5] at d5
  have p5 : 0 ≤ y5 := by omega
  have u5 : y5 < 256 := by have := bt_lt l 5; omega
  obtain ⟨y6, hy6⟩ : ∃ y, (bt l 6 : Int) = y := ⟨_, rfl⟩
  rw [hy6] at d6
  have p6 : 0 ≤ y6 := by omega
  have u6 : y6 < 256 := by have := bt_lt l 6; omega
  obtain ⟨y7, hy7⟩ : ∃ y, (bt l 7 : Int) = y := ⟨_, rfl⟩
  rw [hy7] at d7
  have p7 : 0 ≤ y7 := by omega
  have u7 : y7 < 256 := by have := bt_lt l 7; omega
  obtain rfl : y0 = 78 := by omega
  obtain rfl : y1 = 69 := by omega
  obtain rfl : y2 = 83 := by omega
  obtain rfl : y3 = 26 := by omega
  obtain ⟨M, hM⟩ : ∃ M, mapper l = M := ⟨_, rfl⟩
  rw [hM] at h8
  have hM' := hM
  unfold mapper at hM'
  have km : y7 / 16 * 16 + y6 / 16 = (M : Int) := by omega
  have kw : IntKind.i64.wrap (M : Int) = M := by rw [IntKind.wrap_i64]; omega
  have e7 : ¬ y7 / 4 % 4 = 2 := by omega
  have k6 : y6 / 8 % 2 = 0 := by omega
  have e4 : ¬ y4 = 0 := by omega
  obtain ⟨v7, k7⟩ : ∃ v, y7 / 4 % 4 = v := ⟨_, rfl⟩
  rw [k7] at e7
  have e7' : (v7 == 2) = false := by simpa using e7
  have e4' : (y4 == 0) = false := by simpa using e4
  clear e7 e4
  obtain ⟨I, hI⟩ : ∃ I : Int, (M : Int) = I := ⟨_, rfl⟩
  rw [hI] at km kw
  have h9 : (4 : Int) < I := by omega
  clear hm m0 m1 m2 m3 hy0 hy1 hy2 hy3 hy4 hy5 hy6 hy7 h3 h5 h6 h8 hM hM' hI p0 u0 p1 u1 p2 u2 p3 u3
  go_upto_region 9 with fail
  go_quiet (fail)
  have hd : Fr [] w0 (w0.drewN nq) := (Fr.refl [] w0).drewN nq
  have hbq := HB0.out.fr hd (by simp)
  have d4' := hd.cell d4 (by simp)
  have d5' := hd.cell d5 (by simp)
  have d6' := hd.cell d6 (by simp)
  have HFq := Lib.hid (HF0.out.tr hd)
  clear hd d0 d1 d2 d3 d4 d5 d6 d7 q0 q1 q2 q3 q4 f0 f1 f2 f3 f4 HF0 HB0 k6 k7 e7' e4' h1 h2
  generalize w0.drewN nq = wq at *
  obtain ⟨q0, q1, q2, q3, q4⟩ := blk5 hbq
  have f0 := hbq.frozen 0
  have f1 := hbq.frozen 1
  have f2 := hbq.frozen 2
  have f3 := hbq.frozen 3
  have f4 := hbq.frozen 4
  have HBq := Lib.hid hbq
  clear hbq
  have HB9 := Lib.hid (five_put HBq.out (.int .i64 0) (.int .i64 0) (.slice none 0 0) (.slice none 0 0) (.bool false))
  have HF9 := Lib.hid (five_fr wq z (.int .i64 0) (.int .i64 0) (.slice none 0 0) (.slice none 0 0) (.bool false))
  go_wp2
  have hf := HFq.out.trans (S := []) HF9.out (by simp; omega)
  obtain ⟨z0, z1, z2, z3, z4⟩ := blk5 HB9.out
  generalize ((((wq.setCell ⟨z, 0, none⟩ _).setCell ⟨z, 1, none⟩ _).setCell ⟨z, 2, none⟩ _).setCell ⟨z, 3, none⟩ _).setCell ⟨z, 4, none⟩ _ = w9 at *
  exact bodyPost_ret (v := .tuple #[zeroCt, .int .i64 _]) (by simp [results, Try.results11, go_sem, z0, z1, z2, z3, z4, zeroCt]) rfl ⟨rfl, hf⟩

set_option maxRecDepth 100000 in
set_option maxHeartbeats 1000000 in
theorem rb_cut (hn : l.length = n) (h24 : n ≤ 16777216) (h16 : 16 ≤ n) (hr : Rd w A l) (hm : l.take 4 = mark) (h3 : bt l 7 / 4 % 4 ≠ 2) (h5 : bt l 6 / 8 % 2 ≠ 1) (h6 : bt l 4 ≠ 0) (h8 : mapper l ≤ 4) (hE : n < endAt l) :
    Calls Try.prog 11 #[.slice A n c] w (Refused w 2) := by
  have h1 : ¬ (16777216 : Int) < n := by omega
  have h2 : ¬ (n : Int) < 16 := by omega
  obtain ⟨m0, m1, m2, m3⟩ := (take4 l (by omega)).1 hm
  obtain ⟨z, hz⟩ : ∃ z, w.heap.size = z := ⟨_, rfl⟩
  have hb0 := Blk.fresh w 36 #[.int .i64 0, .int .i64 0, .slice none 0 0, .slice none 0 0, .bool false]
  rw [hz] at hb0
  have HF0 := Lib.hid ((Fr.refl [] w).alloc (.cells #[.int .i64 0, .int .i64 0, .slice none 0 0, .slice none 0 0, .bool false] 36))
  have hr0 := hr.later HF0.out (by simp)
  obtain ⟨b, o, rfl, hc⟩ := head_cells hr0 (by omega)
  have d0 := hc 0 (by omega)
  have t0 : (0 : Int) < n := by omega
  have d1 := hc 1 (by omega)
  have t1 : (1 : Int) < n := by omega
  have d2 := hc 2 (by omega)
  have t2 : (2 : Int) < n := by omega
  have d3 := hc 3 (by omega)
  have t3 : (3 : Int) < n := by omega
  have d4 := hc 4 (by omega)
  have t4 : (4 : Int) < n := by omega
  have d5 := hc 5 (by omega)
  have t5 : (5 : Int) < n := by omega
  have d6 := hc 6 (by omega)
  have t6 : (6 : Int) < n := by omega
  have d7 := hc 7 (by omega)
  have t7 : (7 : Int) < n := by omega
  rw [Nat.add_zero] at d0
  clear hr hr0 hc
  obtain ⟨q0, q1, q2, q3, q4⟩ := blk5 hb0
  have f0 := hb0.frozen 0
  have f1 := hb0.frozen 1
  have f2 := hb0.frozen 2
  have f3 := hb0.frozen 3
  have f4 := hb0.frozen 4
  have HB0 := Lib.hid hb0
  clear hb0
  go_enter Try.func11, Try.ntmps11
  go_upto_region 1 with fail
  generalize w.alloc _ = w0 at *
  obtain ⟨y0, hy0⟩ : ∃ y, (bt l 0 : Int) = y := ⟨_, rfl⟩
  rw [hy0] at d0
  have p0 : 0 ≤ y0 := by omega
  have u0 : y0 < 256 := by have := bt_lt l 0; omega
  obtain ⟨y1, hy1⟩ : ∃ y, (bt l 1 : Int) = y := ⟨_, rfl⟩
  rw [hy1] at d1
  have p1 : 0 ≤ y1 := by omega
  have u1 : y1 < 256 := by have := bt_lt l 1; omega
  obtain ⟨y2, hy2⟩ : ∃ y, (bt l 2 : Int) = y := ⟨_, rfl⟩
  rw [hy2] at d2
  have p2 : 0 ≤ y2 := by omega
  have u2 : y2 < 256 := by have := bt_lt l 2; omega
  obtain ⟨y3, hy3⟩ : ∃ y, (bt l 3 : Int) = y := ⟨_, rfl⟩
  rw [hy3] at d3
  have p3 : 0 ≤ y3 := by omega
  have u3 : y3 < 256 := by have := bt_lt l 3; omega
  obtain ⟨y4, hy4⟩ : ∃ y, (bt l 4 : Int) = y := ⟨_, rfl⟩
  rw [hy4] at d4
  have p4 : 0 ≤ y4 := by omega
  have u4 : y4 < 256 := by have := bt_lt l 4; omega
  obtain ⟨y5, hy5⟩ : ∃ y, (bt l 5 : Int) = y := ⟨_, rfl⟩
  rw [hy5] at d5
  have p5 : 0 ≤ y5 := by omega
  have u5 : y5 < 256 := by have := bt_lt l 5; omega
  obtain ⟨y6, hy6⟩ : ∃ y, (bt l 6 : Int) = y := ⟨_, rfl⟩
  rw [hy6] at d6
  have p6 : 0 ≤ y6 := by omega
  have u6 : y6 < 256 := by have := bt_lt l 6; omega
  obtain ⟨y7, hy7⟩ : ∃ y, (bt l 7 : Int) = y := ⟨_, rfl⟩
  rw [hy7] at d7
  have p7 : 0 ≤ y7 := by omega
  have u7 : y7 < 256 := by have := bt_lt l 7; omega
  obtain rfl : y0 = 78 := by omega
  obtain rfl : y1 = 69 := by omega
  obtain rfl : y2 = 83 := by omega
  obtain rfl : y3 = 26 := by omega
  obtain ⟨M, hM⟩ : ∃ M, mapper l = M := ⟨_, rfl⟩
  rw [hM] at h8
  have hM' := hM
  unfold mapper at hM'
  have km : y7 / 16 * 16 + y6 / 16 = (M : Int) := by omega
  have kw : IntKind.i64.wrap (M : Int) = M := by rw [IntKind.wrap_i64]; omega
  have e7 : ¬ y7 / 4 % 4 = 2 := by omega
  have k6 : y6 / 8 % 2 = 0 := by omega
  have e4 : ¬ y4 = 0 := by omega
  obtain ⟨v7, k7⟩ : ∃ v, y7 / 4 % 4 = v := ⟨_, rfl⟩
  rw [k7] at e7
  have e7' : (v7 == 2) = false := by simpa using e7
  have e4' : (y4 == 0) = false := by simpa using e4
  clear e7 e4
  obtain ⟨I, hI⟩ : ∃ I : Int, (M : Int) = I := ⟨_, rfl⟩
  rw [hI] at km kw
  have h9 : ¬ (4 : Int) < I := by omega
  have hv : Hid ((y6 / 4 % 2 = 1 ∧ start l = 528) ∨ (y6 / 4 % 2 = 0 ∧ start l = 16)) := Lib.hid (by unfold start; split <;> omega)
  have hp : y4 * 16384 = (prgB l : Int) := by unfold prgB; omega
  have hq : y5 * 8192 = (chrB l : Int) := by unfold chrB; omega
  unfold endAt at hE
  have hz9 : Hid (∀ s : Int, (start l : Int) = s → (n : Int) < s + y4 * 16384 + y5 * 8192) := Lib.hid (by intro s hs; omega)
  clear hm m0 m1 m2 m3 hy0 hy1 hy2 hy3 hy4 hy5 hy6 hy7 h3 h5 h6 h8 hM hM' hI p0 u0 p1 u1 p2 u2 p3 u3 hp hq hE
  go_upto_region 9 with fail
  go_quiet (fail)
  have hd : Fr [] w0 (w0.drewN nq) := (Fr.refl [] w0).drewN nq
  have hbq := HB0.out.fr hd (by simp)
  have d4' := hd.cell d4 (by simp)
  have d5' := hd.cell d5 (by simp)
  have d6' := hd.cell d6 (by simp)
  have HFq := Lib.hid (HF0.out.tr hd)
  clear hd d0 d1 d2 d3 d4 d5 d6 d7 q0 q1 q2 q3 q4 f0 f1 f2 f3 f4 HF0 HB0 k6 k7 e7' e4' h1 h2
  generalize w0.drewN nq = wq at *
  obtain ⟨q0, q1, q2, q3, q4⟩ := blk5 hbq
  have f0 := hbq.frozen 0
  have f1 := hbq.frozen 1
  have f2 := hbq.frozen 2
  have f3 := hbq.frozen 3
  have f4 := hbq.frozen 4
  have HBq := Lib.hid hbq
  clear hbq
  have HB9 := Lib.hid (five_put HBq.out (.int .i64 0) (.int .i64 0) (.slice none 0 0) (.slice none 0 0) (.bool false))
  have HF9 := Lib.hid (five_fr wq z (.int .i64 0) (.int .i64 0) (.slice none 0 0) (.slice none 0 0) (.bool false))
  obtain ⟨v4, k4⟩ : ∃ v, y6 / 4 % 2 = v := ⟨_, rfl⟩
  rw [k4] at hv
  rcases hv.out with ⟨rfl, hs⟩ | ⟨rfl, hs⟩
  · have hlt := hz9.out 528 (by rw [hs]; rfl)
    clear hs hv hz9
    go_wp2
    have hf := HFq.out.trans (S := []) HF9.out (by simp; omega)
    obtain ⟨z0, z1, z2, z3, z4⟩ := blk5 HB9.out
    generalize ((((wq.setCell ⟨z, 0, none⟩ _).setCell ⟨z, 1, none⟩ _).setCell ⟨z, 2, none⟩ _).setCell ⟨z, 3, none⟩ _).setCell ⟨z, 4, none⟩ _ = w9 at *
    exact bodyPost_ret (v := .tuple #[zeroCt, .int .i64 _]) (by simp [results, Try.results11, go_sem, z0, z1, z2, z3, z4, zeroCt]) rfl ⟨rfl, hf⟩
  · have hlt := hz9.out 16 (by rw [hs]; rfl)
    clear hs hv hz9
    go_wp2
    have hf := HFq.out.trans (S := []) HF9.out (by simp; omega)
    obtain ⟨z0, z1, z2, z3, z4⟩ := blk5 HB9.out
    generalize ((((wq.setCell ⟨z, 0, none⟩ _).setCell ⟨z, 1, none⟩ _).setCell ⟨z, 2, none⟩ _).setCell ⟨z, 3, none⟩ _).setCell ⟨z, 4, none⟩ _ = w9 at *
    exact bodyPost_ret (v := .tuple #[zeroCt, .int .i64 _]) (by simp [results, Try.results11, go_sem, z0, z1, z2, z3, z4, zeroCt]) rfl ⟨rfl, hf⟩

end

end Ine
end Go.Proofs.Ythabiaenaicppaa
