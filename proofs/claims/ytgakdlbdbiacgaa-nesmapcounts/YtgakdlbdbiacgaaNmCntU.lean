/-
  Contract of mapper 4's unit. Condition: the state is one that there is.
-/
import Derived.Test.YtgakdlbdbiacgaaNmCnt
namespace Go.Proofs.Ytgakdlbdbiacgaa
open Go.RowKit
namespace Nm

set_option maxRecDepth 100000 in
set_option maxHeartbeats 4000000 in
theorem cunit_any (w : World) (g : Nat) (S : St) (s : Int) (h : Ob4 w g S) (hO : Ok S) (hm : S.mp = 4) (hs0 : 0 ≤ s) (hs1 : s < 8) :
    Calls Try.prog 71 #[.pointer (some ⟨g, 0, none⟩), .int .i64 s] w fun e w' => e = .returned (.int .i64 (unit S s)) ∧ w = w' := by
  have hb128 := and128 S.sel hO.sel
  have nr0 := andNot1 S.r0 hO.r0
  obtain ⟨hr00, hr01⟩ := hO.r0
  have nr1 := andNot1 S.r1 hO.r1
  obtain ⟨hr10, hr11⟩ := hO.r1
  have nr2 := andNot1 S.r2 hO.r2
  obtain ⟨hr20, hr21⟩ := hO.r2
  have nr3 := andNot1 S.r3 hO.r3
  obtain ⟨hr30, hr31⟩ := hO.r3
  have nr4 := andNot1 S.r4 hO.r4
  obtain ⟨hr40, hr41⟩ := hO.r4
  have nr5 := andNot1 S.r5 hO.r5
  obtain ⟨hr50, hr51⟩ := hO.r5
  have nr6 := andNot1 S.r6 hO.r6
  obtain ⟨hr60, hr61⟩ := hO.r6
  have nr7 := andNot1 S.r7 hO.r7
  obtain ⟨hr70, hr71⟩ := hO.r7
  clear hO
  obtain ⟨pg, un, mp, mir, c, l, hh, p, bits, cnt, n, sel, lat, ctr, r0, r1, r2, r3, r4, r5, r6, r7, ld, al, ask⟩ := S
  have HB := Lib.hid h
  have hb : Blk w g 82 #[.int .i64 mir, .int .u8 sel, .int .u8 r0, .int .u8 r1, .int .u8 r2, .int .u8 r3, .int .u8 r4, .int .u8 r5, .int .u8 r6, .int .u8 r7, .int .u8 lat, .int .u8 ctr, .bool al, .bool ask] := h
  obtain ⟨d0, d1, d2, d3, d4, d5, d6, d7, d8, d9, d10, d11, d12, d13⟩ := blk14 hb
  simp only at hb128 nr0 hr00 hr01 nr1 hr10 hr11 nr2 hr20 hr21 nr3 hr30 hr31 nr4 hr40 hr41 nr5 hr50 hr51 nr6 hr60 hr61 nr7 hr70 hr71 hm ⊢
  subst hm
  clear hb h HB d0 d10 d11 d12 d13
  have hM : sel / 128 % 2 = 0 ∨ sel / 128 % 2 = 1 := by omega
  obtain rfl | rfl | rfl | rfl | rfl | rfl | rfl | rfl : s = 0 ∨ s = 1 ∨ s = 2 ∨ s = 3 ∨ s = 4 ∨ s = 5 ∨ s = 6 ∨ s = 7 := by omega
  · rcases hM with hM | hM
    · rw [hM] at hb128
      simp only [Int.reduceMul] at hb128
      obtain ⟨X1, hX1⟩ : ∃ y, r0 / 2 * 2 = y := ⟨_, rfl⟩
      rw [hX1] at nr0
      have hX10 : 0 ≤ X1 := by omega
      have hX11 : X1 < 256 := by omega
      have hr : unit ⟨pg, un, 4, mir, c, l, hh, p, bits, cnt, n, sel, lat, ctr, r0, r1, r2, r3, r4, r5, r6, r7, ld, al, ask⟩ 0 = X1 := by unfold unit getR; simp [hM]; omega
      rw [hr]
      clear hr hM hX1
      go_enter Try.func71, Try.ntmps71
      go_wp2
      go_ret
      exact ⟨rfl, rfl⟩
    · rw [hM] at hb128
      simp only [Int.reduceMul] at hb128
      have hr : unit ⟨pg, un, 4, mir, c, l, hh, p, bits, cnt, n, sel, lat, ctr, r0, r1, r2, r3, r4, r5, r6, r7, ld, al, ask⟩ 0 = r2 := by unfold unit getR; simp [hM]
      rw [hr]
      clear hr hM
      go_enter Try.func71, Try.ntmps71
      go_wp2
      go_ret
      exact ⟨rfl, rfl⟩
  · rcases hM with hM | hM
    · rw [hM] at hb128
      simp only [Int.reduceMul] at hb128
      obtain ⟨X1, hX1⟩ : ∃ y, r0 / 2 * 2 = y := ⟨_, rfl⟩
      rw [hX1] at nr0
      have hX10 : 0 ≤ X1 := by omega
      have hX11 : X1 < 256 := by omega
      obtain ⟨N, hN⟩ : ∃ y, X1 + 1 = y := ⟨_, rfl⟩
      have hr : unit ⟨pg, un, 4, mir, c, l, hh, p, bits, cnt, n, sel, lat, ctr, r0, r1, r2, r3, r4, r5, r6, r7, ld, al, ask⟩ 1 = N := by unfold unit getR; simp [hM]; omega
      rw [hr]
      clear hr hM hX1
      go_enter Try.func71, Try.ntmps71
      go_wp2
      go_ret
      exact ⟨rfl, rfl⟩
    · rw [hM] at hb128
      simp only [Int.reduceMul] at hb128
      have hr : unit ⟨pg, un, 4, mir, c, l, hh, p, bits, cnt, n, sel, lat, ctr, r0, r1, r2, r3, r4, r5, r6, r7, ld, al, ask⟩ 1 = r3 := by unfold unit getR; simp [hM]
      rw [hr]
      clear hr hM
      go_enter Try.func71, Try.ntmps71
      go_wp2
      go_ret
      exact ⟨rfl, rfl⟩
  · rcases hM with hM | hM
    · rw [hM] at hb128
      simp only [Int.reduceMul] at hb128
      obtain ⟨X1, hX1⟩ : ∃ y, r1 / 2 * 2 = y := ⟨_, rfl⟩
      rw [hX1] at nr1
      have hX10 : 0 ≤ X1 := by omega
      have hX11 : X1 < 256 := by omega
      have hr : unit ⟨pg, un, 4, mir, c, l, hh, p, bits, cnt, n, sel, lat, ctr, r0, r1, r2, r3, r4, r5, r6, r7, ld, al, ask⟩ 2 = X1 := by unfold unit getR; simp [hM]; omega
      rw [hr]
      clear hr hM hX1
      go_enter Try.func71, Try.ntmps71
      go_wp2
      go_ret
      exact ⟨rfl, rfl⟩
    · rw [hM] at hb128
      simp only [Int.reduceMul] at hb128
      have hr : unit ⟨pg, un, 4, mir, c, l, hh, p, bits, cnt, n, sel, lat, ctr, r0, r1, r2, r3, r4, r5, r6, r7, ld, al, ask⟩ 2 = r4 := by unfold unit getR; simp [hM]
      rw [hr]
      clear hr hM
      go_enter Try.func71, Try.ntmps71
      go_wp2
      go_ret
      exact ⟨rfl, rfl⟩
  · rcases hM with hM | hM
    · rw [hM] at hb128
      simp only [Int.reduceMul] at hb128
      obtain ⟨X1, hX1⟩ : ∃ y, r1 / 2 * 2 = y := ⟨_, rfl⟩
      rw [hX1] at nr1
      have hX10 : 0 ≤ X1 := by omega
      have hX11 : X1 < 256 := by omega
      obtain ⟨N, hN⟩ : ∃ y, X1 + 1 = y := ⟨_, rfl⟩
      have hr : unit ⟨pg, un, 4, mir, c, l, hh, p, bits, cnt, n, sel, lat, ctr, r0, r1, r2, r3, r4, r5, r6, r7, ld, al, ask⟩ 3 = N := by unfold unit getR; simp [hM]; omega
      rw [hr]
      clear hr hM hX1
      go_enter Try.func71, Try.ntmps71
      go_wp2
      go_ret
      exact ⟨rfl, rfl⟩
    · rw [hM] at hb128
      simp only [Int.reduceMul] at hb128
      have hr : unit ⟨pg, un, 4, mir, c, l, hh, p, bits, cnt, n, sel, lat, ctr, r0, r1, r2, r3, r4, r5, r6, r7, ld, al, ask⟩ 3 = r5 := by unfold unit getR; simp [hM]
      rw [hr]
      clear hr hM
      go_enter Try.func71, Try.ntmps71
      go_wp2
      go_ret
      exact ⟨rfl, rfl⟩
  · rcases hM with hM | hM
    · rw [hM] at hb128
      simp only [Int.reduceMul] at hb128
      have hr : unit ⟨pg, un, 4, mir, c, l, hh, p, bits, cnt, n, sel, lat, ctr, r0, r1, r2, r3, r4, r5, r6, r7, ld, al, ask⟩ 4 = r2 := by unfold unit getR; simp [hM]
      rw [hr]
      clear hr hM
      go_enter Try.func71, Try.ntmps71
      go_wp2
      go_ret
      exact ⟨rfl, rfl⟩
    · rw [hM] at hb128
      simp only [Int.reduceMul] at hb128
      obtain ⟨X1, hX1⟩ : ∃ y, r0 / 2 * 2 = y := ⟨_, rfl⟩
      rw [hX1] at nr0
      have hX10 : 0 ≤ X1 := by omega
      have hX11 : X1 < 256 := by omega
      have hr : unit ⟨pg, un, 4, mir, c, l, hh, p, bits, cnt, n, sel, lat, ctr, r0, r1, r2, r3, r4, r5, r6, r7, ld, al, ask⟩ 4 = X1 := by unfold unit getR; simp [hM]; omega
      rw [hr]
      clear hr hM hX1
      go_enter Try.func71, Try.ntmps71
      go_wp2
      go_ret
      exact ⟨rfl, rfl⟩
  · rcases hM with hM | hM
    · rw [hM] at hb128
      simp only [Int.reduceMul] at hb128
      have hr : unit ⟨pg, un, 4, mir, c, l, hh, p, bits, cnt, n, sel, lat, ctr, r0, r1, r2, r3, r4, r5, r6, r7, ld, al, ask⟩ 5 = r3 := by unfold unit getR; simp [hM]
      rw [hr]
      clear hr hM
      go_enter Try.func71, Try.ntmps71
      go_wp2
      go_ret
      exact ⟨rfl, rfl⟩
    · rw [hM] at hb128
      simp only [Int.reduceMul] at hb128
      obtain ⟨X1, hX1⟩ : ∃ y, r0 / 2 * 2 = y := ⟨_, rfl⟩
      rw [hX1] at nr0
      have hX10 : 0 ≤ X1 := by omega
      have hX11 : X1 < 256 := by omega
      obtain ⟨N, hN⟩ : ∃ y, X1 + 1 = y := ⟨_, rfl⟩
      have hr : unit ⟨pg, un, 4, mir, c, l, hh, p, bits, cnt, n, sel, lat, ctr, r0, r1, r2, r3, r4, r5, r6, r7, ld, al, ask⟩ 5 = N := by unfold unit getR; simp [hM]; omega
      rw [hr]
      clear hr hM hX1
      go_enter Try.func71, Try.ntmps71
      go_wp2
      go_ret
      exact ⟨rfl, rfl⟩
  · rcases hM with hM | hM
    · rw [hM] at hb128
      simp only [Int.reduceMul] at hb128
      have hr : unit ⟨pg, un, 4, mir, c, l, hh, p, bits, cnt, n, sel, lat, ctr, r0, r1, r2, r3, r4, r5, r6, r7, ld, al, ask⟩ 6 = r4 := by unfold unit getR; simp [hM]
      rw [hr]
      clear hr hM
      go_enter Try.func71, Try.ntmps71
      go_wp2
      go_ret
      exact ⟨rfl, rfl⟩
    · rw [hM] at hb128
      simp only [Int.reduceMul] at hb128
      obtain ⟨X1, hX1⟩ : ∃ y, r1 / 2 * 2 = y := ⟨_, rfl⟩
      rw [hX1] at nr1
      have hX10 : 0 ≤ X1 := by omega
      have hX11 : X1 < 256 := by omega
      have hr : unit ⟨pg, un, 4, mir, c, l, hh, p, bits, cnt, n, sel, lat, ctr, r0, r1, r2, r3, r4, r5, r6, r7, ld, al, ask⟩ 6 = X1 := by unfold unit getR; simp [hM]; omega
      rw [hr]
      clear hr hM hX1
      go_enter Try.func71, Try.ntmps71
      go_wp2
      go_ret
      exact ⟨rfl, rfl⟩
  · rcases hM with hM | hM
    · rw [hM] at hb128
      simp only [Int.reduceMul] at hb128
      have hr : unit ⟨pg, un, 4, mir, c, l, hh, p, bits, cnt, n, sel, lat, ctr, r0, r1, r2, r3, r4, r5, r6, r7, ld, al, ask⟩ 7 = r5 := by unfold unit getR; simp [hM]
      rw [hr]
      clear hr hM
      go_enter Try.func71, Try.ntmps71
      go_wp2
      go_ret
      exact ⟨rfl, rfl⟩
    · rw [hM] at hb128
      simp only [Int.reduceMul] at hb128
      obtain ⟨X1, hX1⟩ : ∃ y, r1 / 2 * 2 = y := ⟨_, rfl⟩
      rw [hX1] at nr1
      have hX10 : 0 ≤ X1 := by omega
      have hX11 : X1 < 256 := by omega
      obtain ⟨N, hN⟩ : ∃ y, X1 + 1 = y := ⟨_, rfl⟩
      have hr : unit ⟨pg, un, 4, mir, c, l, hh, p, bits, cnt, n, sel, lat, ctr, r0, r1, r2, r3, r4, r5, r6, r7, ld, al, ask⟩ 7 = N := by unfold unit getR; simp [hM]; omega
      rw [hr]
      clear hr hM hX1
      go_enter Try.func71, Try.ntmps71
      go_wp2
      go_ret
      exact ⟨rfl, rfl⟩

end Nm
end Go.Proofs.Ytgakdlbdbiacgaa
