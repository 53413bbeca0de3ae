/-
  Contracts of the document's Clock, Mirror, New. Condition: the state is one that there is.
-/
import Derived.Test.YtgakdlbdbiacgaaNmObj
namespace Go.Proofs.Ytgakdlbdbiacgaa
open Go.RowKit
namespace Nm

set_option maxRecDepth 100000 in
set_option maxHeartbeats 4000000 in
theorem rclock_any (w : World) (q : Nat) (S : St) (h : RefAt w q S) (hO : Ok S) :
    Calls Try.prog 12 #[.pointer (some ⟨q, 0, none⟩)] w (RDone w q (clk S)) := by
  obtain ⟨hm0, hm1⟩ := hO.mp
  obtain ⟨hc0, hc1⟩ := hO.ctr
  obtain ⟨hl0, hl1⟩ := hO.lat
  have hld := hO.ld
  clear hO
  obtain ⟨pg, un, mp, mir, c, l, hh, p, bits, cnt, n, sel, lat, ctr, r0, r1, r2, r3, r4, r5, r6, r7, ld, al, ask⟩ := S
  have HB := Lib.hid h
  have hb : Blk w q 40 #[.int .i64 pg, .int .i64 un, .int .i64 mp, .int .i64 mir, .int .i64 c, .int .i64 l, .int .i64 hh, .int .i64 p, .int .i64 bits, .int .i64 cnt, .int .i64 n, .int .i64 sel, .int .i64 lat, .int .i64 ctr, .int .i64 r0, .int .i64 r1, .int .i64 r2, .int .i64 r3, .int .i64 r4, .int .i64 r5, .int .i64 r6, .int .i64 r7, .bool ld, .bool al, .bool ask] := h
  obtain ⟨-, -, d2, -, -, -, -, -, -, -, -, -, d12, d13, -, -, -, -, -, -, -, -, d22, d23, d24⟩ := blk25 hb
  have f13 := hb.frozen 13
  have f22 := hb.frozen 22
  have f24 := hb.frozen 24
  simp only at hm0 hm1 hc0 hc1 hl0 hl1 hld
  clear hb h
  unfold clk nextC
  by_cases hm : mp = 4
  · subst hm
    clear hm0 hm1
    simp only [if_true]
    have HQ : ∀ (N : Int) (k : Bool) (T : St), T = ⟨pg, un, 4, mir, c, l, hh, p, bits, cnt, n, sel, lat, N, r0, r1, r2, r3, r4, r5, r6, r7, false, al, k⟩ → Hid (RDone w q T (.returned (.tuple #[])) (((w.setCell ⟨q, 13, none⟩ (.int .i64 N)).setCell ⟨q, 22, none⟩ (.bool false)).setCell ⟨q, 24, none⟩ (.bool k))) := by
      rintro N k T rfl
      exact Lib.hid (rdone_put (ref_put (ref_put HB.out 13 _ ⟨pg, un, 4, mir, c, l, hh, p, bits, cnt, n, sel, lat, N, r0, r1, r2, r3, r4, r5, r6, r7, ld, al, ask⟩ rfl) 22 _ ⟨pg, un, 4, mir, c, l, hh, p, bits, cnt, n, sel, lat, N, r0, r1, r2, r3, r4, r5, r6, r7, false, al, ask⟩ rfl) (((Fr.refl [q] w).setCell (by simp) _).setCell (by simp) _) 24 _ _ rfl)
    by_cases hz : ctr = 0
    · subst hz
      clear hld
      by_cases hl : lat = 0
      · subst hl
        cases al <;> cases ask
        all_goals
          first | have HX := HQ 0 true _ rfl | skip
          have HX0 := HQ 0 false _ rfl
          clear HQ
          go_enter Try.func12, Try.ntmps12
          go_wp2
          (first | go_end0 | refine bodyPost_ret (results_none rfl _ _ _) rfl ?_)
          first | exact HX.out | exact HX0.out
      · have HLn := Lib.hid hl
        have hl' : (lat == 0) = false := by rw [beq_eq_false_iff_ne]; exact hl
        have hl2 : decide (lat = 0) = false := decide_eq_false hl
        rw [if_pos rfl, hl2]
        have HX := HQ lat ask _ rfl
        clear HQ hl hl2
        cases al <;> cases ask
        all_goals
          go_enter Try.func12, Try.ntmps12
          go_wp2
          (first | go_end0 | refine bodyPost_ret (results_none rfl _ _ _) rfl ?_)
          exact HX.out
    · obtain rfl : ld = false := by
        cases ld
        · rfl
        · exact absurd (hld rfl) hz
      clear hld
      rw [if_neg hz]
      have hz' : (ctr == 0) = false := by rw [beq_eq_false_iff_ne]; exact hz
      obtain ⟨N, hN⟩ : ∃ N, ctr - 1 = N := ⟨_, rfl⟩
      have hN0 : 0 ≤ N := by omega
      have hN1 : N < 256 := by omega
      rw [hN]
      by_cases hl : N = 0
      · subst hl
        cases al <;> cases ask
        all_goals
          first | have HX := HQ 0 true _ rfl | skip
          have HX0 := HQ 0 false _ rfl
          clear HQ hz
          go_enter Try.func12, Try.ntmps12
          go_wp2
          (first | go_end0 | refine bodyPost_ret (results_none rfl _ _ _) rfl ?_)
          first | exact HX.out | exact HX0.out
      · have hl' : (N == 0) = false := by rw [beq_eq_false_iff_ne]; exact hl
        have hl2 : decide (N = 0) = false := decide_eq_false hl
        rw [hl2]
        have HX := HQ N ask _ rfl
        clear HQ hl hl2 hz
        cases al <;> cases ask
        all_goals
          go_enter Try.func12, Try.ntmps12
          go_wp2
          (first | go_end0 | refine bodyPost_ret (results_none rfl _ _ _) rfl ?_)
          exact HX.out
  · rw [if_neg hm]
    have hm' : (mp == 4) = false := by rw [beq_eq_false_iff_ne]; exact hm
    clear hm0 hm1 hm
    go_enter Try.func12, Try.ntmps12
    go_wp2
    (first | go_end0 | refine bodyPost_ret (results_none rfl _ _ _) rfl ?_)
    exact ⟨rfl, HB.out, Fr.refl _ _⟩

set_option maxRecDepth 100000 in
set_option maxHeartbeats 4000000 in
theorem rmirror_any (w : World) (q : Nat) (S : St) (h : RefAt w q S) (hO : Ok S) :
    Calls Try.prog 28 #[.pointer (some ⟨q, 0, none⟩)] w fun e w' => e = .returned (.int .i64 (mirOf S)) ∧ w = w' := by
  obtain ⟨hm0, hm1⟩ := hO.mp
  obtain ⟨hc0, hc1⟩ := hO.c
  clear hO
  obtain ⟨pg, un, mp, mir, c, l, hh, p, bits, cnt, n, sel, lat, ctr, r0, r1, r2, r3, r4, r5, r6, r7, ld, al, ask⟩ := S
  have HB := Lib.hid h
  have hb : Blk w q 40 #[.int .i64 pg, .int .i64 un, .int .i64 mp, .int .i64 mir, .int .i64 c, .int .i64 l, .int .i64 hh, .int .i64 p, .int .i64 bits, .int .i64 cnt, .int .i64 n, .int .i64 sel, .int .i64 lat, .int .i64 ctr, .int .i64 r0, .int .i64 r1, .int .i64 r2, .int .i64 r3, .int .i64 r4, .int .i64 r5, .int .i64 r6, .int .i64 r7, .bool ld, .bool al, .bool ask] := h
  obtain ⟨-, -, d2, d3, d4, -, -, -, -, -, -, -, -, -, -, -, -, -, -, -, -, -, -, -, -⟩ := blk25 hb
  simp only at hm0 hm1 hc0 hc1
  clear hb h
  unfold mirOf
  simp only
  by_cases hm : mp = 1
  · subst hm
    rw [if_pos rfl]
    obtain ⟨x, hx⟩ : ∃ x, c % 4 = x := ⟨_, rfl⟩
    rw [hx]
    have hx0 : 0 ≤ x := by omega
    have hx1 : x < 4 := by omega
    clear hm0 hm1
    by_cases h2 : x < 2
    · rw [if_pos h2]
      go_enter Try.func28, Try.ntmps28
      go_wp2
      go_ret
      exact ⟨rfl, rfl⟩
    · rw [if_neg h2]
      go_enter Try.func28, Try.ntmps28
      go_wp2
      go_ret
      exact ⟨rfl, rfl⟩
  · rw [if_neg hm]
    have hm' : (mp == 1) = false := by rw [beq_eq_false_iff_ne]; exact hm
    clear hm0 hm1 hm
    go_enter Try.func28, Try.ntmps28
    go_wp2
    go_ret
    exact ⟨rfl, rfl⟩

set_option maxRecDepth 100000 in
set_option maxHeartbeats 4000000 in
theorem rnew_any (w : World) (mp mir prg chr pg un : Int) (h1 : 8192 * pg = prg) (h2 : 1024 * un = chr) (h3 : 0 ≤ pg ∧ pg ≤ 32) (h4 : 0 ≤ un ∧ un ≤ 128) :
    Calls Try.prog 21 #[.int .i64 mp, .int .i64 mir, .int .i64 prg, .int .i64 chr] w fun e w' => e = .returned (.pointer (some ⟨w.heap.size, 0, none⟩)) ∧ RefAt w' w.heap.size (new mp mir pg un) ∧ Fr [] w w' := by
  have hp0 : 0 ≤ prg := by omega
  have hc0 : 0 ≤ chr := by omega
  have hp : prg.tdiv 8192 = pg := by rw [Int.tdiv_eq_ediv_of_nonneg hp0]; omega
  have hc : chr.tdiv 1024 = un := by rw [Int.tdiv_eq_ediv_of_nonneg hc0]; omega
  have hp' : prg / 8192 = pg := by omega
  have hc' : chr / 1024 = un := by omega
  obtain ⟨h30, h31⟩ := h3
  obtain ⟨h40, h41⟩ := h4
  clear h1 h2
  go_enter Try.func21, Try.ntmps21
  go_wp2
  go_ret
  exact ⟨rfl, Blk.fresh _ _ _, (Fr.refl _ _).alloc _⟩

end Nm
end Go.Proofs.Ytgakdlbdbiacgaa
