/-
  Contracts of mapper 4. Condition: the state is one that there is.
-/
import Derived.Test.YtgakdlbdbiacgaaNmBits
namespace Go.Proofs.Ytgakdlbdbiacgaa
open Go.RowKit
namespace Nm

section
variable {w : World} {q : Nat} {t : TypeId} {x0 x1 x2 x3 x4 x5 x6 x7 x8 x9 x10 x11 x12 x13 : Value}
theorem blk14 (h : Blk w q t #[x0, x1, x2, x3, x4, x5, x6, x7, x8, x9, x10, x11, x12, x13]) : w.cell? ⟨q, 0, none⟩ = some x0 ∧ w.cell? ⟨q, 1, none⟩ = some x1 ∧ w.cell? ⟨q, 2, none⟩ = some x2 ∧ w.cell? ⟨q, 3, none⟩ = some x3 ∧ w.cell? ⟨q, 4, none⟩ = some x4 ∧ w.cell? ⟨q, 5, none⟩ = some x5 ∧ w.cell? ⟨q, 6, none⟩ = some x6 ∧ w.cell? ⟨q, 7, none⟩ = some x7 ∧ w.cell? ⟨q, 8, none⟩ = some x8 ∧ w.cell? ⟨q, 9, none⟩ = some x9 ∧ w.cell? ⟨q, 10, none⟩ = some x10 ∧ w.cell? ⟨q, 11, none⟩ = some x11 ∧ w.cell? ⟨q, 12, none⟩ = some x12 ∧ w.cell? ⟨q, 13, none⟩ = some x13 :=
  ⟨h.cell 0, h.cell 1, h.cell 2, h.cell 3, h.cell 4, h.cell 5, h.cell 6, h.cell 7, h.cell 8, h.cell 9, h.cell 10, h.cell 11, h.cell 12, h.cell 13⟩
end

theorem ob4_put {w : World} {g : Nat} {S : St} (h : Ob4 w g S) (i : Nat) (u : Value) (T : St) (hc : (#[.int .i64 S.mir, .int .u8 S.sel, .int .u8 S.r0, .int .u8 S.r1, .int .u8 S.r2, .int .u8 S.r3, .int .u8 S.r4, .int .u8 S.r5, .int .u8 S.r6, .int .u8 S.r7, .int .u8 S.lat, .int .u8 S.ctr, .bool S.al, .bool S.ask] : Array Value).setIfInBounds i u = #[.int .i64 T.mir, .int .u8 T.sel, .int .u8 T.r0, .int .u8 T.r1, .int .u8 T.r2, .int .u8 T.r3, .int .u8 T.r4, .int .u8 T.r5, .int .u8 T.r6, .int .u8 T.r7, .int .u8 T.lat, .int .u8 T.ctr, .bool T.al, .bool T.ask]) : Ob4 (w.setCell ⟨g, i, none⟩ u) g T := by
  have := Blk.put h i u
  rw [hc] at this
  exact this
/-- What a call leaves that turns mapper 4. -/
def Done4 (w : World) (g : Nat) (S : St) (e : Ending) (w' : World) : Prop := e = .returned (.tuple #[]) ∧ Ob4 w' g S ∧ Fr [g] w w'
theorem done4_put {w w0 : World} {g : Nat} {S : St} (h : Ob4 w g S) (hf : Fr [g] w0 w) (i : Nat) (u : Value) (T : St) (hc : (#[.int .i64 S.mir, .int .u8 S.sel, .int .u8 S.r0, .int .u8 S.r1, .int .u8 S.r2, .int .u8 S.r3, .int .u8 S.r4, .int .u8 S.r5, .int .u8 S.r6, .int .u8 S.r7, .int .u8 S.lat, .int .u8 S.ctr, .bool S.al, .bool S.ask] : Array Value).setIfInBounds i u = #[.int .i64 T.mir, .int .u8 T.sel, .int .u8 T.r0, .int .u8 T.r1, .int .u8 T.r2, .int .u8 T.r3, .int .u8 T.r4, .int .u8 T.r5, .int .u8 T.r6, .int .u8 T.r7, .int .u8 T.lat, .int .u8 T.ctr, .bool T.al, .bool T.ask]) : Done4 w0 g T (.returned (.tuple #[])) (w.setCell ⟨g, i, none⟩ u) :=
  ⟨rfl, ob4_put h i u T hc, hf.setCell (by simp) u⟩

set_option maxRecDepth 100000 in
set_option maxHeartbeats 4000000 in
theorem cirq_any (w : World) (g : Nat) (S : St) (h : Ob4 w g S) : Calls Try.prog 69 #[.pointer (some ⟨g, 0, none⟩)] w fun e w' => e = .returned (.bool S.ask) ∧ w = w' := by
  obtain ⟨pg, un, mp, mir, c, l, hh, p, bits, cnt, n, sel, lat, ctr, r0, r1, r2, r3, r4, r5, r6, r7, ld, al, ask⟩ := S
  have HB := Lib.hid h
  have hb : Blk w g 82 #[.int .i64 mir, .int .u8 sel, .int .u8 r0, .int .u8 r1, .int .u8 r2, .int .u8 r3, .int .u8 r4, .int .u8 r5, .int .u8 r6, .int .u8 r7, .int .u8 lat, .int .u8 ctr, .bool al, .bool ask] := h
  obtain ⟨d0, d1, d2, d3, d4, d5, d6, d7, d8, d9, d10, d11, d12, d13⟩ := blk14 hb
  simp only
  clear hb h HB
  go_enter Try.func69, Try.ntmps69
  go_wp2
  go_ret
  exact ⟨rfl, rfl⟩

set_option maxRecDepth 100000 in
set_option maxHeartbeats 4000000 in
theorem cclock_any (w : World) (g : Nat) (S : St) (h : Ob4 w g S) (hO : Ok S) (hm : S.mp = 4) : Calls Try.prog 68 #[.pointer (some ⟨g, 0, none⟩)] w (Done4 w g (clk S)) := by
  obtain ⟨hc0, hc1⟩ := hO.ctr
  obtain ⟨hl0, hl1⟩ := hO.lat
  clear hO
  obtain ⟨pg, un, mp, mir, c, l, hh, p, bits, cnt, n, sel, lat, ctr, r0, r1, r2, r3, r4, r5, r6, r7, ld, al, ask⟩ := S
  have HB := Lib.hid h
  have hb : Blk w g 82 #[.int .i64 mir, .int .u8 sel, .int .u8 r0, .int .u8 r1, .int .u8 r2, .int .u8 r3, .int .u8 r4, .int .u8 r5, .int .u8 r6, .int .u8 r7, .int .u8 lat, .int .u8 ctr, .bool al, .bool ask] := h
  obtain ⟨d0, d1, d2, d3, d4, d5, d6, d7, d8, d9, d10, d11, d12, d13⟩ := blk14 hb
  have f11 := hb.frozen 11
  have f13 := hb.frozen 13
  simp only at hc0 hc1 hl0 hl1 hm
  subst hm
  clear hb h d0 d1 d2 d3 d4 d5 d6 d7 d8 d9
  unfold clk nextC
  simp only [if_true]
  have HQ : ∀ (N : Int), Hid (Done4 w g ⟨pg, un, 4, mir, c, l, hh, p, bits, cnt, n, sel, lat, N, r0, r1, r2, r3, r4, r5, r6, r7, false, al, ask⟩ (.returned (.tuple #[])) (w.setCell ⟨g, 11, none⟩ (.int .u8 N))) := fun N => Lib.hid (done4_put HB.out (Fr.refl _ _) _ _ _ rfl)
  have HR : ∀ (N : Int), Hid (Done4 w g ⟨pg, un, 4, mir, c, l, hh, p, bits, cnt, n, sel, lat, N, r0, r1, r2, r3, r4, r5, r6, r7, false, al, true⟩ (.returned (.tuple #[])) ((w.setCell ⟨g, 11, none⟩ (.int .u8 N)).setCell ⟨g, 13, none⟩ (.bool true))) := fun N => Lib.hid (done4_put (ob4_put HB.out 11 _ ⟨pg, un, 4, mir, c, l, hh, p, bits, cnt, n, sel, lat, N, r0, r1, r2, r3, r4, r5, r6, r7, ld, al, ask⟩ rfl) ((Fr.refl [g] w).setCell (by simp) _) _ _ _ rfl)
  by_cases hz : ctr = 0
  · subst hz
    simp only [if_true]
    by_cases hl : lat = 0
    · subst hl
      have HQ := HQ 0
      have HR := HR 0
      cases al <;> cases ask
      all_goals
        go_enter Try.func68, Try.ntmps68
        go_wp2
        (first | go_end0 | refine bodyPost_ret (results_none rfl _ _ _) rfl ?_)
        first | exact HQ.out | exact HR.out
    · have hl' : (lat == 0) = false := by rw [beq_eq_false_iff_ne]; exact hl
      have hl2 : decide (lat = 0) = false := decide_eq_false hl
      rw [hl2]
      have HX := HQ lat
      clear HQ HR hl hl2
      cases al <;> cases ask
      all_goals
        go_enter Try.func68, Try.ntmps68
        go_wp2
        (first | go_end0 | refine bodyPost_ret (results_none rfl _ _ _) rfl ?_)
        exact HX.out
  · rw [if_neg hz]
    have hz' : (ctr == 0) = false := by rw [beq_eq_false_iff_ne]; exact hz
    obtain ⟨N, hN⟩ : ∃ N, ctr - 1 = N := ⟨_, rfl⟩
    have hN0 : 0 ≤ N := by omega
    have hN1 : N < 256 := by omega
    rw [hN]
    by_cases hl : N = 0
    · subst hl
      have HQ := HQ 0
      have HR := HR 0
      clear hz
      cases al <;> cases ask
      all_goals
        go_enter Try.func68, Try.ntmps68
        go_wp2
        (first | go_end0 | refine bodyPost_ret (results_none rfl _ _ _) rfl ?_)
        first | exact HQ.out | exact HR.out
    · have hl' : (N == 0) = false := by rw [beq_eq_false_iff_ne]; exact hl
      have hl2 : decide (N = 0) = false := decide_eq_false hl
      rw [hl2]
      have HX := HQ N
      clear HQ HR hl hl2 hz
      cases al <;> cases ask
      all_goals
        go_enter Try.func68, Try.ntmps68
        go_wp2
        (first | go_end0 | refine bodyPost_ret (results_none rfl _ _ _) rfl ?_)
        exact HX.out

set_option maxRecDepth 100000 in
set_option maxHeartbeats 4000000 in
theorem cpage_any (w : World) (g : Nat) (S : St) (s : Int) (h : Ob4 w g S) (hO : Ok S) (hm : S.mp = 4) (hs0 : 0 ≤ s) (hs1 : s < 4) :
    Calls Try.prog 70 #[.pointer (some ⟨g, 0, none⟩), .int .i64 s] w fun e w' => e = .returned (.int .i64 (rawP S s)) ∧ w = w' := by
  have hb64 := and64 S.sel hO.sel
  obtain ⟨h60, h61⟩ := hO.r6
  obtain ⟨h70, h71⟩ := hO.r7
  have HF3 : Hid (∀ W, Calls Try.prog 63 #[.int .i64 3] W fun e w' => e = .returned (.int .i64 (-1)) ∧ W = w') := Lib.hid fun W => by simpa using fromLast_any W 3 (by omega) (by omega)
  have HF2 : Hid (∀ W, Calls Try.prog 63 #[.int .i64 2] W fun e w' => e = .returned (.int .i64 (-2)) ∧ W = w') := Lib.hid fun W => by simpa using fromLast_any W 2 (by omega) (by omega)
  clear hO
  obtain ⟨pg, un, mp, mir, c, l, hh, p, bits, cnt, n, sel, lat, ctr, r0, r1, r2, r3, r4, r5, r6, r7, ld, al, ask⟩ := S
  have HB := Lib.hid h
  have hb : Blk w g 82 #[.int .i64 mir, .int .u8 sel, .int .u8 r0, .int .u8 r1, .int .u8 r2, .int .u8 r3, .int .u8 r4, .int .u8 r5, .int .u8 r6, .int .u8 r7, .int .u8 lat, .int .u8 ctr, .bool al, .bool ask] := h
  obtain ⟨d0, d1, d2, d3, d4, d5, d6, d7, d8, d9, d10, d11, d12, d13⟩ := blk14 hb
  simp only at hb64 h60 h61 h70 h71 hm ⊢
  subst hm
  clear hb h HB d0 d2 d3 d4 d5 d6 d7 d10 d11 d12 d13
  have hM : sel / 64 % 2 = 0 ∨ sel / 64 % 2 = 1 := by omega
  obtain rfl | rfl | rfl | rfl : s = 3 ∨ s = 1 ∨ s = 0 ∨ s = 2 := by omega
  · rcases hM with hM | hM
    · rw [hM] at hb64
      simp only [Int.reduceMul] at hb64
      rw [rawP4_3 ⟨pg, un, 4, mir, c, l, hh, p, bits, cnt, n, sel, lat, ctr, r0, r1, r2, r3, r4, r5, r6, r7, ld, al, ask⟩ rfl]
      go_enter Try.func70, Try.ntmps70
      go_wp2_with fail
      (with_reducible refine (HF3.out _).mono ?_)
      rintro e w1 ⟨rfl, rfl⟩
      go_wp2
      go_ret
      exact ⟨rfl, rfl⟩
    · rw [hM] at hb64
      simp only [Int.reduceMul] at hb64
      rw [rawP4_3 ⟨pg, un, 4, mir, c, l, hh, p, bits, cnt, n, sel, lat, ctr, r0, r1, r2, r3, r4, r5, r6, r7, ld, al, ask⟩ rfl]
      go_enter Try.func70, Try.ntmps70
      go_wp2_with fail
      (with_reducible refine (HF3.out _).mono ?_)
      rintro e w1 ⟨rfl, rfl⟩
      go_wp2
      go_ret
      exact ⟨rfl, rfl⟩
  · rcases hM with hM | hM
    · rw [hM] at hb64
      simp only [Int.reduceMul] at hb64
      rw [rawP4_1 ⟨pg, un, 4, mir, c, l, hh, p, bits, cnt, n, sel, lat, ctr, r0, r1, r2, r3, r4, r5, r6, r7, ld, al, ask⟩ rfl]
      go_enter Try.func70, Try.ntmps70
      go_wp2
      go_ret
      exact ⟨rfl, rfl⟩
    · rw [hM] at hb64
      simp only [Int.reduceMul] at hb64
      rw [rawP4_1 ⟨pg, un, 4, mir, c, l, hh, p, bits, cnt, n, sel, lat, ctr, r0, r1, r2, r3, r4, r5, r6, r7, ld, al, ask⟩ rfl]
      go_enter Try.func70, Try.ntmps70
      go_wp2
      go_ret
      exact ⟨rfl, rfl⟩
  · rcases hM with hM | hM
    · rw [hM] at hb64
      simp only [Int.reduceMul] at hb64
      rw [rawP4_00 ⟨pg, un, 4, mir, c, l, hh, p, bits, cnt, n, sel, lat, ctr, r0, r1, r2, r3, r4, r5, r6, r7, ld, al, ask⟩ rfl hM]
      clear hM
      go_enter Try.func70, Try.ntmps70
      go_wp2
      go_ret
      exact ⟨rfl, rfl⟩
    · rw [hM] at hb64
      simp only [Int.reduceMul] at hb64
      rw [rawP4_01 ⟨pg, un, 4, mir, c, l, hh, p, bits, cnt, n, sel, lat, ctr, r0, r1, r2, r3, r4, r5, r6, r7, ld, al, ask⟩ rfl hM]
      clear hM
      go_enter Try.func70, Try.ntmps70
      go_wp2_with fail
      (with_reducible refine (HF2.out _).mono ?_)
      rintro e w1 ⟨rfl, rfl⟩
      go_wp2
      go_ret
      exact ⟨rfl, rfl⟩
  · rcases hM with hM | hM
    · rw [hM] at hb64
      simp only [Int.reduceMul] at hb64
      rw [rawP4_20 ⟨pg, un, 4, mir, c, l, hh, p, bits, cnt, n, sel, lat, ctr, r0, r1, r2, r3, r4, r5, r6, r7, ld, al, ask⟩ rfl hM]
      clear hM
      go_enter Try.func70, Try.ntmps70
      go_wp2_with fail
      (with_reducible refine (HF2.out _).mono ?_)
      rintro e w1 ⟨rfl, rfl⟩
      go_wp2
      go_ret
      exact ⟨rfl, rfl⟩
    · rw [hM] at hb64
      simp only [Int.reduceMul] at hb64
      rw [rawP4_21 ⟨pg, un, 4, mir, c, l, hh, p, bits, cnt, n, sel, lat, ctr, r0, r1, r2, r3, r4, r5, r6, r7, ld, al, ask⟩ rfl hM]
      clear hM
      go_enter Try.func70, Try.ntmps70
      go_wp2
      go_ret
      exact ⟨rfl, rfl⟩

end Nm
end Go.Proofs.Ytgakdlbdbiacgaa
