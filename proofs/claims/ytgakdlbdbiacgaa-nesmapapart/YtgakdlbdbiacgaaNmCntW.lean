/-
  Contracts of mapper 4's writes. Condition: the state is one that there is.
-/
import Derived.Test.YtgakdlbdbiacgaaNmCnt
namespace Go.Proofs.Ytgakdlbdbiacgaa
open Go.RowKit
namespace Nm

set_option maxRecDepth 100000 in
set_option maxHeartbeats 4000000 in
theorem ceven_any (w : World) (g : Nat) (S : St) (s v : Int) (h : Ob4 w g S) (hv : byte v) (hs0 : 0 ≤ s) (hs1 : s < 4) :
    Calls Try.prog 73 #[.pointer (some ⟨g, 0, none⟩), .int .i64 s, .int .u8 v] w (Done4 w g (if s = 0 then { S with sel := v } else if s = 1 then { S with mir := 1 - v % 2 } else if s = 2 then { S with lat := v } else { S with al := false, ask := false })) := by
  have hvb := and1 v hv
  obtain ⟨hv0, hv1⟩ := hv
  obtain ⟨pg, un, mp, mir, c, l, hh, p, bits, cnt, n, sel, lat, ctr, r0, r1, r2, r3, r4, r5, r6, r7, ld, al, ask⟩ := S
  have HB := Lib.hid h
  have hb : Blk w g 82 #[.int .i64 mir, .int .u8 sel, .int .u8 r0, .int .u8 r1, .int .u8 r2, .int .u8 r3, .int .u8 r4, .int .u8 r5, .int .u8 r6, .int .u8 r7, .int .u8 lat, .int .u8 ctr, .bool al, .bool ask] := h
  obtain ⟨d0, d1, d2, d3, d4, d5, d6, d7, d8, d9, d10, d11, d12, d13⟩ := blk14 hb
  have f0 := hb.frozen 0
  have f1 := hb.frozen 1
  have f2 := hb.frozen 2
  have f3 := hb.frozen 3
  have f4 := hb.frozen 4
  have f5 := hb.frozen 5
  have f6 := hb.frozen 6
  have f7 := hb.frozen 7
  have f8 := hb.frozen 8
  have f9 := hb.frozen 9
  have f10 := hb.frozen 10
  have f11 := hb.frozen 11
  have f12 := hb.frozen 12
  have f13 := hb.frozen 13
  clear hb h
  have hx : v % 2 = 0 ∨ v % 2 = 1 := by omega
  obtain rfl | rfl | rfl | rfl : s = 0 ∨ s = 1 ∨ s = 2 ∨ s = 3 := by omega
  · simp only [if_true]
    clear hvb hx
    go_enter Try.func73, Try.ntmps73
    go_wp2
    (first | go_end0 | refine bodyPost_ret (results_none rfl _ _ _) rfl ?_)
    exact done4_put HB.out (Fr.refl _ _) _ _ _ rfl
  · simp only [Int.reduceEq, if_false, if_true]
    have HX : ∀ m : Int, m = 1 - v % 2 → Hid (Done4 w g ⟨pg, un, mp, 1 - v % 2, c, l, hh, p, bits, cnt, n, sel, lat, ctr, r0, r1, r2, r3, r4, r5, r6, r7, ld, al, ask⟩ (.returned (.tuple #[])) (w.setCell ⟨g, 0, none⟩ (.int .i64 m)) ∧ Done4 w g ⟨pg, un, mp, 1 - v % 2, c, l, hh, p, bits, cnt, n, sel, lat, ctr, r0, r1, r2, r3, r4, r5, r6, r7, ld, al, ask⟩ (.returned (.tuple #[])) ((w.setCell ⟨g, 0, none⟩ (.int .i64 1)).setCell ⟨g, 0, none⟩ (.int .i64 m))) := by
      rintro m rfl
      exact Lib.hid ⟨done4_put HB.out (Fr.refl _ _) _ _ _ rfl, done4_put (ob4_put HB.out 0 _ ⟨pg, un, mp, 1, c, l, hh, p, bits, cnt, n, sel, lat, ctr, r0, r1, r2, r3, r4, r5, r6, r7, ld, al, ask⟩ rfl) ((Fr.refl [g] w).setCell (by simp) _) _ _ _ rfl⟩
    rcases hx with hx | hx
    · have HX := HX 1 (by omega)
      rw [hx] at hvb
      clear hx
      go_enter Try.func73, Try.ntmps73
      go_wp2
      (first | go_end0 | refine bodyPost_ret (results_none rfl _ _ _) rfl ?_)
      exact HX.out.1
    · have HX := HX 0 (by omega)
      rw [hx] at hvb
      clear hx
      go_enter Try.func73, Try.ntmps73
      go_wp2
      (first | go_end0 | refine bodyPost_ret (results_none rfl _ _ _) rfl ?_)
      exact HX.out.2
  · simp only [Int.reduceEq, if_false, if_true]
    clear hvb hx
    go_enter Try.func73, Try.ntmps73
    go_wp2
    (first | go_end0 | refine bodyPost_ret (results_none rfl _ _ _) rfl ?_)
    exact done4_put HB.out (Fr.refl _ _) _ _ _ rfl
  · simp only [Int.reduceEq, if_false]
    clear hvb hx
    go_enter Try.func73, Try.ntmps73
    go_wp2
    (first | go_end0 | refine bodyPost_ret (results_none rfl _ _ _) rfl ?_)
    exact done4_put (ob4_put HB.out 12 _ ⟨pg, un, mp, mir, c, l, hh, p, bits, cnt, n, sel, lat, ctr, r0, r1, r2, r3, r4, r5, r6, r7, ld, false, ask⟩ rfl) ((Fr.refl [g] w).setCell (by simp) _) _ _ _ rfl

set_option maxRecDepth 100000 in
set_option maxHeartbeats 4000000 in
theorem codd_any (w : World) (g : Nat) (S : St) (s v : Int) (h : Ob4 w g S) (hv : byte v) (hO : byte S.sel) (hs0 : 0 ≤ s) (hs1 : s < 4) :
    Calls Try.prog 74 #[.pointer (some ⟨g, 0, none⟩), .int .i64 s, .int .u8 v] w (Done4 w g (if s = 0 then setR S (S.sel % 8) v else if s = 1 then S else if s = 2 then { S with ctr := 0, ld := true } else { S with al := true })) := by
  obtain ⟨hv0, hv1⟩ := hv
  obtain ⟨hl0, hl1⟩ := hO
  obtain ⟨pg, un, mp, mir, c, l, hh, p, bits, cnt, n, sel, lat, ctr, r0, r1, r2, r3, r4, r5, r6, r7, ld, al, ask⟩ := S
  have HB := Lib.hid h
  have hb : Blk w g 82 #[.int .i64 mir, .int .u8 sel, .int .u8 r0, .int .u8 r1, .int .u8 r2, .int .u8 r3, .int .u8 r4, .int .u8 r5, .int .u8 r6, .int .u8 r7, .int .u8 lat, .int .u8 ctr, .bool al, .bool ask] := h
  obtain ⟨d0, d1, d2, d3, d4, d5, d6, d7, d8, d9, d10, d11, d12, d13⟩ := blk14 hb
  have f0 := hb.frozen 0
  have f1 := hb.frozen 1
  have f2 := hb.frozen 2
  have f3 := hb.frozen 3
  have f4 := hb.frozen 4
  have f5 := hb.frozen 5
  have f6 := hb.frozen 6
  have f7 := hb.frozen 7
  have f8 := hb.frozen 8
  have f9 := hb.frozen 9
  have f10 := hb.frozen 10
  have f11 := hb.frozen 11
  have f12 := hb.frozen 12
  have f13 := hb.frozen 13
  simp only at hl0 hl1
  clear hb h
  obtain rfl | rfl | rfl | rfl : s = 0 ∨ s = 1 ∨ s = 2 ∨ s = 3 := by omega
  · simp only [if_true]
    have hk : sel % 8 = 0 ∨ sel % 8 = 1 ∨ sel % 8 = 2 ∨ sel % 8 = 3 ∨ sel % 8 = 4 ∨ sel % 8 = 5 ∨ sel % 8 = 6 ∨ sel % 8 = 7 := by omega
    unfold setR
    rcases hk with hk | hk | hk | hk | hk | hk | hk | hk
    all_goals
      have hk' := hk
      rw [← Int.tmod_eq_emod_of_nonneg hl0] at hk'
      have hwr : IntKind.i64.wrap sel = sel := by rw [IntKind.wrap_i64]; omega
      simp only [hk, if_true, Int.reduceEq, if_false]
      go_enter Try.func74, Try.ntmps74
      go_upto_region 2 with fail
      go_still_tail 11, (by kernel_rfl)
      repeat still_step
      change wpList _ _ _ _ _ w.drew
      have HB2 : Hid (Ob4 w.drew g ⟨pg, un, mp, mir, c, l, hh, p, bits, cnt, n, sel, lat, ctr, r0, r1, r2, r3, r4, r5, r6, r7, ld, al, ask⟩) := HB
      have HF2 : Hid (Fr [g] w w.drew) := Lib.hid (Fr.refl [g] w).drew
      have hb2 : Blk w.drew g 82 #[.int .i64 mir, .int .u8 sel, .int .u8 r0, .int .u8 r1, .int .u8 r2, .int .u8 r3, .int .u8 r4, .int .u8 r5, .int .u8 r6, .int .u8 r7, .int .u8 lat, .int .u8 ctr, .bool al, .bool ask] := HB.out
      obtain ⟨-, -, e2, e3, e4, e5, e6, e7, e8, e9, -⟩ := blk14 hb2
      have g2 := hb2.frozen 2
      have g3 := hb2.frozen 3
      have g4 := hb2.frozen 4
      have g5 := hb2.frozen 5
      have g6 := hb2.frozen 6
      have g7 := hb2.frozen 7
      have g8 := hb2.frozen 8
      have g9 := hb2.frozen 9
      clear hb2 d0 d1 d2 d3 d4 d5 d6 d7 d8 d9 d10 d11 d12 d13
      generalize w.drew = w2 at *
      go_wp2
      (first | go_end0 | refine bodyPost_ret (results_none rfl _ _ _) rfl ?_)
      exact done4_put HB2.out HF2.out _ _ _ rfl
  · simp only [Int.reduceEq, if_false, if_true]
    go_enter Try.func74, Try.ntmps74
    go_wp2
    (first | go_end0 | refine bodyPost_ret (results_none rfl _ _ _) rfl ?_)
    exact ⟨rfl, HB.out, Fr.refl _ _⟩
  · simp only [Int.reduceEq, if_false, if_true]
    go_enter Try.func74, Try.ntmps74
    go_wp2
    (first | go_end0 | refine bodyPost_ret (results_none rfl _ _ _) rfl ?_)
    exact done4_put HB.out (Fr.refl _ _) _ _ _ rfl
  · simp only [Int.reduceEq, if_false]
    go_enter Try.func74, Try.ntmps74
    go_wp2
    (first | go_end0 | refine bodyPost_ret (results_none rfl _ _ _) rfl ?_)
    exact done4_put HB.out (Fr.refl _ _) _ _ _ rfl

set_option maxRecDepth 100000 in
set_option maxHeartbeats 4000000 in
theorem cwrite_any (w : World) (g : Nat) (S : St) (a v : Int) (h : Ob4 w g S) (hv : byte v) (hO : byte S.sel) (ha0 : 32768 ≤ a) (ha1 : a < 65536) :
    Calls Try.prog 72 #[.pointer (some ⟨g, 0, none⟩), .int .u16 a, .int .u8 v] w (Done4 w g (cntW S a v)) := by
  obtain ⟨s, hs, hs0, hs1⟩ : ∃ s : Int, a / 8192 - 4 = s ∧ 0 ≤ s ∧ s < 4 := ⟨_, rfl, by omega, by omega⟩
  have HSp := Lib.hid (fun W => spanOf_any W a s ha0 ha1 hs)
  by_cases h2 : a % 2 = 0
  · have HE : Hid (Calls Try.prog 73 #[.pointer (some ⟨g, 0, none⟩), .int .i64 s, .int .u8 v] w (Done4 w g (cntW S a v))) := Lib.hid ((ceven_any w g S s v h hv hs0 hs1).mono fun e w' hd => by
      unfold cntW
      simp only [if_pos h2]
      obtain rfl | rfl | rfl | rfl : s = 0 ∨ s = 1 ∨ s = 2 ∨ s = 3 := by omega
      · rw [if_pos (by omega)]; exact hd
      · rw [if_neg (by omega), if_pos (by omega)]; exact hd
      · rw [if_neg (by omega), if_neg (by omega), if_pos (by omega)]; exact hd
      · rw [if_neg (by omega), if_neg (by omega), if_neg (by omega)]; exact hd)
    generalize cntW S a v = T at *
    have ha00 : 0 ≤ a := by omega
    have ht2 : a.tmod 2 = 0 := by rw [Int.tmod_eq_emod_of_nonneg ha00]; exact h2
    clear h hs hO
    unfold Done4 at *
    go_enter Try.func72, Try.ntmps72
    go_wp2_with fail
    (with_reducible refine (HSp.out _).mono ?_)
    rintro e w1 ⟨rfl, rfl⟩
    go_wp2_with fail
    (with_reducible refine HE.out.mono ?_)
    rintro e w1 ⟨rfl, ho, hf⟩
    have HO1 := Lib.hid ho
    have HF1 := Lib.hid hf
    clear ho hf
    go_wp2
    (first | go_end0 | refine bodyPost_ret (results_none rfl _ _ _) rfl ?_)
    exact ⟨rfl, HO1.out, HF1.out⟩
  · have HE : Hid (Calls Try.prog 74 #[.pointer (some ⟨g, 0, none⟩), .int .i64 s, .int .u8 v] w (Done4 w g (cntW S a v))) := Lib.hid ((codd_any w g S s v h hv hO hs0 hs1).mono fun e w' hd => by
      unfold cntW
      simp only [if_neg h2]
      obtain rfl | rfl | rfl | rfl : s = 0 ∨ s = 1 ∨ s = 2 ∨ s = 3 := by omega
      · rw [if_pos (by omega)]; exact hd
      · rw [if_neg (by omega), if_pos (by omega)]; exact hd
      · rw [if_neg (by omega), if_neg (by omega), if_pos (by omega)]; exact hd
      · rw [if_neg (by omega), if_neg (by omega), if_neg (by omega)]; exact hd)
    generalize cntW S a v = T at *
    have ha00 : 0 ≤ a := by omega
    have h21 : a % 2 = 1 := by omega
    have ht2 : a.tmod 2 = 1 := by rw [Int.tmod_eq_emod_of_nonneg ha00]; exact h21
    clear h hs hO h2
    unfold Done4 at *
    go_enter Try.func72, Try.ntmps72
    go_wp2_with fail
    (with_reducible refine (HSp.out _).mono ?_)
    rintro e w1 ⟨rfl, rfl⟩
    go_wp2_with fail
    (with_reducible refine HE.out.mono ?_)
    rintro e w1 ⟨rfl, ho, hf⟩
    have HO1 := Lib.hid ho
    have HF1 := Lib.hid hf
    clear ho hf
    go_wp2
    (first | go_end0 | refine bodyPost_ret (results_none rfl _ _ _) rfl ?_)
    exact ⟨rfl, HO1.out, HF1.out⟩

end Nm
end Go.Proofs.Ytgakdlbdbiacgaa
