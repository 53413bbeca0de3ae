/-
  Contract of the document's counted. No condition.
-/
import Derived.Test.YtgakdlbdbiacgaaNmObj
namespace Go.Proofs.Ytgakdlbdbiacgaa
open Go.RowKit
namespace Nm

set_option maxRecDepth 100000 in
set_option maxHeartbeats 2000000 in
theorem rcounted_any (w : World) (q : Nat) (S : St) (a v : Int) (h : RefAt w q S) (ha : 0 ≤ a ∧ a < 65536) (hv : byte v) (hs : byte S.sel) :
    Calls Try.prog 24 #[.pointer (some ⟨q, 0, none⟩), .int .u16 a, .int .i64 v] w (RDone w q (cntW S a v)) := by
  obtain ⟨pg, un, mp, mir, c, l, hh, p, bits, cnt, n, sel, lat, ctr, r0, r1, r2, r3, r4, r5, r6, r7, ld, al, ask⟩ := S
  have HB := Lib.hid h
  have hb : Blk w q 40 #[.int .i64 pg, .int .i64 un, .int .i64 mp, .int .i64 mir, .int .i64 c, .int .i64 l, .int .i64 hh, .int .i64 p, .int .i64 bits, .int .i64 cnt, .int .i64 n, .int .i64 sel, .int .i64 lat, .int .i64 ctr, .int .i64 r0, .int .i64 r1, .int .i64 r2, .int .i64 r3, .int .i64 r4, .int .i64 r5, .int .i64 r6, .int .i64 r7, .bool ld, .bool al, .bool ask] := h
  obtain ⟨d0, d1, d2, d3, d4, d5, d6, d7, d8, d9, d10, d11, d12, d13, d14, d15, d16, d17, d18, d19, d20, d21, d22, d23, d24⟩ := blk25 hb
  have f3 := hb.frozen 3
  have f11 := hb.frozen 11
  have f12 := hb.frozen 12
  have f13 := hb.frozen 13
  have f14 := hb.frozen 14
  have f15 := hb.frozen 15
  have f16 := hb.frozen 16
  have f17 := hb.frozen 17
  have f18 := hb.frozen 18
  have f19 := hb.frozen 19
  have f20 := hb.frozen 20
  have f21 := hb.frozen 21
  have f22 := hb.frozen 22
  have f23 := hb.frozen 23
  have f24 := hb.frozen 24
  clear hb h
  obtain ⟨ha0, ha1⟩ := ha
  obtain ⟨hv0, hv1⟩ := hv
  obtain ⟨hs0, hs1⟩ := hs
  simp only at hs0 hs1
  unfold cntW
  by_cases h2 : a % 2 = 0
  · simp only [if_pos h2]
    by_cases h1 : a < 40960
    · rw [if_pos h1]
      go_enter Try.func24, Try.ntmps24
      go_wp2
      (first | go_end0 | refine bodyPost_ret (results_none rfl _ _ _) rfl ?_)
      exact rdone_put HB.out (Fr.refl _ _) 11 _ _ rfl
    rw [if_neg h1]
    by_cases h3 : a < 49152
    · rw [if_pos h3]
      have HE : Hid (RDone w q ⟨pg, un, mp, 1 - v % 2, c, l, hh, p, bits, cnt, n, sel, lat, ctr, r0, r1, r2, r3, r4, r5, r6, r7, ld, al, ask⟩ (.returned (.tuple #[])) (w.setCell ⟨q, 3, none⟩ (.int .i64 (1 - v % 2)))) := Lib.hid (rdone_put HB.out (Fr.refl _ _) 3 _ _ rfl)
      go_enter Try.func24, Try.ntmps24
      go_wp2
      (first | go_end0 | refine bodyPost_ret (results_none rfl _ _ _) rfl ?_)
      exact HE.out
    rw [if_neg h3]
    by_cases h4 : a < 57344
    · rw [if_pos h4]
      go_enter Try.func24, Try.ntmps24
      go_wp2
      (first | go_end0 | refine bodyPost_ret (results_none rfl _ _ _) rfl ?_)
      exact rdone_put HB.out (Fr.refl _ _) 12 _ _ rfl
    rw [if_neg h4]
    go_enter Try.func24, Try.ntmps24
    go_wp2
    (first | go_end0 | refine bodyPost_ret (results_none rfl _ _ _) rfl ?_)
    exact rdone_put (ref_put HB.out 23 _ ⟨pg, un, mp, mir, c, l, hh, p, bits, cnt, n, sel, lat, ctr, r0, r1, r2, r3, r4, r5, r6, r7, ld, false, ask⟩ rfl) ((Fr.refl [q] w).setCell (by simp) _) 24 _ _ rfl
  · simp only [if_neg h2]
    by_cases h1 : a < 40960
    · rw [if_pos h1]
      have hk : sel % 8 = 0 ∨ sel % 8 = 1 ∨ sel % 8 = 2 ∨ sel % 8 = 3 ∨ sel % 8 = 4 ∨ sel % 8 = 5 ∨ sel % 8 = 6 ∨ sel % 8 = 7 := by omega
      unfold setR
      rcases hk with hk | hk | hk | hk | hk | hk | hk | hk
      all_goals
        have hk' := hk
        rw [← Int.tmod_eq_emod_of_nonneg hs0] at hk'
        simp only [hk, if_true, Int.reduceEq, if_false]
        go_enter Try.func24, Try.ntmps24
        go_upto_region 4 with fail
        go_still_tail 10, (by kernel_rfl)
        repeat still_step
        change wpList _ _ _ _ _ w.drew
        have HB2 : Hid (RefAt w.drew q ⟨pg, un, mp, mir, c, l, hh, p, bits, cnt, n, sel, lat, ctr, r0, r1, r2, r3, r4, r5, r6, r7, ld, al, ask⟩) := HB
        have HF2 : Hid (Fr [q] w w.drew) := Lib.hid (Fr.refl [q] w).drew
        have hb2 : Blk w.drew q 40 #[.int .i64 pg, .int .i64 un, .int .i64 mp, .int .i64 mir, .int .i64 c, .int .i64 l, .int .i64 hh, .int .i64 p, .int .i64 bits, .int .i64 cnt, .int .i64 n, .int .i64 sel, .int .i64 lat, .int .i64 ctr, .int .i64 r0, .int .i64 r1, .int .i64 r2, .int .i64 r3, .int .i64 r4, .int .i64 r5, .int .i64 r6, .int .i64 r7, .bool ld, .bool al, .bool ask] := HB.out
        obtain ⟨-, -, -, -, -, -, -, -, -, -, -, -, -, -, e14, e15, e16, e17, e18, e19, e20, e21, -⟩ := blk25 hb2
        have g14 := hb2.frozen 14
        have g15 := hb2.frozen 15
        have g16 := hb2.frozen 16
        have g17 := hb2.frozen 17
        have g18 := hb2.frozen 18
        have g19 := hb2.frozen 19
        have g20 := hb2.frozen 20
        have g21 := hb2.frozen 21
        clear hb2 d0 d1 d2 d3 d4 d5 d6 d7 d8 d9 d10 d11 d12 d13 d14 d15 d16 d17 d18 d19 d20 d21 d22 d23 d24
        generalize w.drew = w2 at *
        go_wp2
        (first | go_end0 | refine bodyPost_ret (results_none rfl _ _ _) rfl ?_)
        exact rdone_put HB2.out HF2.out _ _ _ rfl
    rw [if_neg h1]
    by_cases h3 : a < 49152
    · rw [if_pos h3]
      go_enter Try.func24, Try.ntmps24
      go_wp2
      (first | go_end0 | refine bodyPost_ret (results_none rfl _ _ _) rfl ?_)
      exact ⟨rfl, HB.out, Fr.refl _ _⟩
    rw [if_neg h3]
    by_cases h4 : a < 57344
    · rw [if_pos h4]
      go_enter Try.func24, Try.ntmps24
      go_wp2
      (first | go_end0 | refine bodyPost_ret (results_none rfl _ _ _) rfl ?_)
      exact rdone_put (ref_put HB.out 13 _ ⟨pg, un, mp, mir, c, l, hh, p, bits, cnt, n, sel, lat, 0, r0, r1, r2, r3, r4, r5, r6, r7, ld, al, ask⟩ rfl) ((Fr.refl [q] w).setCell (by simp) _) 22 _ _ rfl
    rw [if_neg h4]
    go_enter Try.func24, Try.ntmps24
    go_wp2
    (first | go_end0 | refine bodyPost_ret (results_none rfl _ _ _) rfl ?_)
    exact rdone_put HB.out (Fr.refl _ _) 23 _ _ rfl

end Nm
end Go.Proofs.Ytgakdlbdbiacgaa
