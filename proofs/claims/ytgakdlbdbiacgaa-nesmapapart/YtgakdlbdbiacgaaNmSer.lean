/-
  Contracts of mapper 1. Condition: the state is one that there is.
-/
import Derived.Test.YtgakdlbdbiacgaaNmBits
namespace Go.Proofs.Ytgakdlbdbiacgaa
open Go.RowKit
namespace Nm

section
variable {w : World} {q : Nat} {t : TypeId} {x0 x1 x2 x3 x4 x5 x6 : Value}
theorem blk7 (h : Blk w q t #[x0, x1, x2, x3, x4, x5, x6]) : w.cell? ⟨q, 0, none⟩ = some x0 ∧ w.cell? ⟨q, 1, none⟩ = some x1 ∧ w.cell? ⟨q, 2, none⟩ = some x2 ∧ w.cell? ⟨q, 3, none⟩ = some x3 ∧ w.cell? ⟨q, 4, none⟩ = some x4 ∧ w.cell? ⟨q, 5, none⟩ = some x5 ∧ w.cell? ⟨q, 6, none⟩ = some x6 :=
  ⟨h.cell 0, h.cell 1, h.cell 2, h.cell 3, h.cell 4, h.cell 5, h.cell 6⟩
end
theorem byte_five {x : Int} (h : five x) : byte x := ⟨h.1, by have := h.2; omega⟩

set_option maxRecDepth 100000 in
set_option maxHeartbeats 4000000 in
theorem smirror_any (w : World) (g : Nat) (S : St) (h : Ob1 w g S) (hO : Ok S) :
    Calls Try.prog 58 #[.pointer (some ⟨g, 0, none⟩)] w fun e w' => e = .returned (.int .i64 (if S.c % 4 < 2 then 2 + S.c % 4 else 3 - S.c % 4)) ∧ w = w' := by
  have hc := hO.c
  have hb3 := and3 S.c (byte_five hc)
  clear hO
  obtain ⟨pg, un, mp, mir, c, l, hh, p, bits, cnt, n, sel, lat, ctr, r0, r1, r2, r3, r4, r5, r6, r7, ld, al, ask⟩ := S
  have HB := Lib.hid h
  have hb : Blk w g 85 #[.int .i64 0, .int .u8 c, .int .u8 l, .int .u8 hh, .int .u8 p, .int .u8 bits, .int .i64 cnt] := h
  obtain ⟨d0, d1, d2, d3, d4, d5, d6⟩ := blk7 hb
  simp only at hc hb3 ⊢
  clear hb h HB
  have hx : c % 4 = 0 ∨ c % 4 = 1 ∨ c % 4 = 2 ∨ c % 4 = 3 := by omega
  rcases hx with hx | hx | hx | hx
  all_goals
    rw [hx] at hb3 ⊢
    clear hx hc
    go_enter Try.func58, Try.ntmps58
    go_wp2
    go_ret
    exact ⟨rfl, rfl⟩

set_option maxRecDepth 100000 in
set_option maxHeartbeats 4000000 in
theorem spage_any (w : World) (g : Nat) (S : St) (s : Int) (h : Ob1 w g S) (hO : Ok S) (hm : S.mp = 1) (hs0 : 0 ≤ s) (hs1 : s < 4) :
    Calls Try.prog 59 #[.pointer (some ⟨g, 0, none⟩), .int .i64 s] w fun e w' => e = .returned (.int .i64 (rawP S s)) ∧ w = w' := by
  obtain ⟨hc0, hc1⟩ := hO.c
  obtain ⟨hp0, hp1⟩ := hO.p
  have hb12 := and12 S.c (byte_five hO.c)
  have hb15 := and15 S.p (byte_five hO.p)
  clear hO
  obtain ⟨pg, un, mp, mir, c, l, hh, p, bits, cnt, n, sel, lat, ctr, r0, r1, r2, r3, r4, r5, r6, r7, ld, al, ask⟩ := S
  have HB := Lib.hid h
  have hb : Blk w g 85 #[.int .i64 0, .int .u8 c, .int .u8 l, .int .u8 hh, .int .u8 p, .int .u8 bits, .int .i64 cnt] := h
  obtain ⟨d0, d1, d2, d3, d4, d5, d6⟩ := blk7 hb
  simp only at hc0 hc1 hp0 hp1 hb12 hb15 hm ⊢
  subst hm
  clear hb h HB
  obtain ⟨B, hB⟩ : ∃ y, p % 16 = y := ⟨_, rfl⟩
  have hB0 : 0 ≤ B := by omega
  have hB1 : B < 16 := by omega
  rw [hB] at hb15
  obtain ⟨X1, hX1⟩ : ∃ y, 2 * B = y := ⟨_, rfl⟩
  have hX10 : 0 ≤ X1 := by omega
  have hX11 : X1 < 32 := by omega
  have H2 : Hid (∀ W, Calls Try.prog 62 #[.int .i64 X1, .int .i64 s] W fun e w' => e = .returned (.int .i64 (if s < 2 then X1 + s else s - 4)) ∧ W = w') := Lib.hid fun W => twoAndLast_any W X1 s hs0 (by omega) hX10 (by omega)
  have hM : c / 4 % 4 = 0 ∨ c / 4 % 4 = 1 ∨ c / 4 % 4 = 2 ∨ c / 4 % 4 = 3 := by omega
  have hbl : ∀ k : Int, c / 4 % 4 = k → Go.bits .and .u8 c 12 = k * 4 := fun k hk => by rw [hb12, hk]
  clear hb12
  rcases hM with hM | hM | hM | hM
  · have hk := hbl _ hM
    simp only [Int.reduceMul] at hk
    obtain ⟨H, hH⟩ : ∃ y, B / 2 = y := ⟨_, rfl⟩
    have hH' : B.tdiv 2 = H := by rw [Int.tdiv_eq_ediv_of_nonneg hB0]; exact hH
    obtain ⟨Y, hY⟩ : ∃ y, H * 4 = y := ⟨_, rfl⟩
    obtain ⟨N, hN⟩ : ∃ y, Y + s = y := ⟨_, rfl⟩
    have HQ : rawP ⟨pg, un, 1, mir, c, l, hh, p, bits, cnt, n, sel, lat, ctr, r0, r1, r2, r3, r4, r5, r6, r7, ld, al, ask⟩ s = N := by unfold rawP; simp only; (repeat' split) <;> first | omega | (rename_i h; exact absurd trivial h) | (rename_i h _; exact absurd trivial h) | (rename_i h _ _; exact absurd trivial h) | (rename_i h _ _ _; exact absurd trivial h) | (rename_i h _ _ _ _; exact absurd trivial h)
    rw [HQ]
    have hY0 : 0 ≤ Y := by omega
    have hY1 : Y < 32 := by omega
    clear HQ hbl hM hB hX1
    go_enter Try.func59, Try.ntmps59
    go_wp2
    go_ret
    exact ⟨rfl, rfl⟩
  · have hk := hbl _ hM
    simp only [Int.reduceMul] at hk
    obtain ⟨H, hH⟩ : ∃ y, B / 2 = y := ⟨_, rfl⟩
    have hH' : B.tdiv 2 = H := by rw [Int.tdiv_eq_ediv_of_nonneg hB0]; exact hH
    obtain ⟨Y, hY⟩ : ∃ y, H * 4 = y := ⟨_, rfl⟩
    obtain ⟨N, hN⟩ : ∃ y, Y + s = y := ⟨_, rfl⟩
    have HQ : rawP ⟨pg, un, 1, mir, c, l, hh, p, bits, cnt, n, sel, lat, ctr, r0, r1, r2, r3, r4, r5, r6, r7, ld, al, ask⟩ s = N := by unfold rawP; simp only; (repeat' split) <;> first | omega | (rename_i h; exact absurd trivial h) | (rename_i h _; exact absurd trivial h) | (rename_i h _ _; exact absurd trivial h) | (rename_i h _ _ _; exact absurd trivial h) | (rename_i h _ _ _ _; exact absurd trivial h)
    rw [HQ]
    have hY0 : 0 ≤ Y := by omega
    have hY1 : Y < 32 := by omega
    clear HQ hbl hM hB hX1
    go_enter Try.func59, Try.ntmps59
    go_wp2
    go_ret
    exact ⟨rfl, rfl⟩
  · have hk := hbl _ hM
    simp only [Int.reduceMul] at hk
    by_cases g3 : s < 2
    · have HQ : rawP ⟨pg, un, 1, mir, c, l, hh, p, bits, cnt, n, sel, lat, ctr, r0, r1, r2, r3, r4, r5, r6, r7, ld, al, ask⟩ s = s := by unfold rawP; simp only; (repeat' split) <;> first | omega | (rename_i h; exact absurd trivial h) | (rename_i h _; exact absurd trivial h) | (rename_i h _ _; exact absurd trivial h) | (rename_i h _ _ _; exact absurd trivial h) | (rename_i h _ _ _ _; exact absurd trivial h)
      rw [HQ]
      clear HQ hbl hM hB hX1
      go_enter Try.func59, Try.ntmps59
      go_wp2
      go_ret
      exact ⟨rfl, rfl⟩
    · obtain ⟨X2, hX2⟩ : ∃ y, X1 + s = y := ⟨_, rfl⟩
      obtain ⟨N, hN⟩ : ∃ y, X2 - 2 = y := ⟨_, rfl⟩
      have HQ : rawP ⟨pg, un, 1, mir, c, l, hh, p, bits, cnt, n, sel, lat, ctr, r0, r1, r2, r3, r4, r5, r6, r7, ld, al, ask⟩ s = N := by unfold rawP; simp only; (repeat' split) <;> first | omega | (rename_i h; exact absurd trivial h) | (rename_i h _; exact absurd trivial h) | (rename_i h _ _; exact absurd trivial h) | (rename_i h _ _ _; exact absurd trivial h) | (rename_i h _ _ _ _; exact absurd trivial h)
      rw [HQ]
      have hX20 : 0 ≤ X2 := by omega
      have hX21 : X2 < 64 := by omega
      clear HQ hbl hM hB
      go_enter Try.func59, Try.ntmps59
      go_wp2
      go_ret
      exact ⟨rfl, rfl⟩
  · have hk := hbl _ hM
    simp only [Int.reduceMul] at hk
    obtain ⟨N, hN⟩ : ∃ y, (if s < 2 then X1 + s else s - 4) = y := ⟨_, rfl⟩
    have HQ : rawP ⟨pg, un, 1, mir, c, l, hh, p, bits, cnt, n, sel, lat, ctr, r0, r1, r2, r3, r4, r5, r6, r7, ld, al, ask⟩ s = N := by
      rw [← hN]
      unfold rawP; simp only; (repeat' split) <;> first | omega | (rename_i h; exact absurd trivial h) | (rename_i h _; exact absurd trivial h) | (rename_i h _ _; exact absurd trivial h) | (rename_i h _ _ _; exact absurd trivial h) | (rename_i h _ _ _ _; exact absurd trivial h)
    rw [HQ]
    rw [hN] at H2
    clear HQ hbl hM hB hN
    go_enter Try.func59, Try.ntmps59
    go_wp2_with fail
    (with_reducible refine (H2.out _).mono ?_)
    rintro e w1 ⟨rfl, rfl⟩
    go_wp2
    go_ret
    exact ⟨rfl, rfl⟩

set_option maxRecDepth 100000 in
set_option maxHeartbeats 4000000 in
theorem sunit_any (w : World) (g : Nat) (S : St) (s : Int) (h : Ob1 w g S) (hO : Ok S) (hm : S.mp = 1) (hs0 : 0 ≤ s) (hs1 : s < 8) :
    Calls Try.prog 60 #[.pointer (some ⟨g, 0, none⟩), .int .i64 s] w fun e w' => e = .returned (.int .i64 (unit S s)) ∧ w = w' := by
  obtain ⟨hc0, hc1⟩ := hO.c
  obtain ⟨hl0, hl1⟩ := hO.l
  obtain ⟨hh0, hh1⟩ := hO.h
  have hb16 := and16 S.c (byte_five hO.c)
  clear hO
  obtain ⟨pg, un, mp, mir, c, l, hh, p, bits, cnt, n, sel, lat, ctr, r0, r1, r2, r3, r4, r5, r6, r7, ld, al, ask⟩ := S
  have HB := Lib.hid h
  have hb : Blk w g 85 #[.int .i64 0, .int .u8 c, .int .u8 l, .int .u8 hh, .int .u8 p, .int .u8 bits, .int .i64 cnt] := h
  obtain ⟨d0, d1, d2, d3, d4, d5, d6⟩ := blk7 hb
  simp only at hc0 hc1 hl0 hl1 hh0 hh1 hb16 hm ⊢
  subst hm
  clear hb h HB
  have hM : c / 16 % 2 = 0 ∨ c / 16 % 2 = 1 := by omega
  rcases hM with hM | hM
  · rw [hM] at hb16
    simp only [Int.reduceMul] at hb16
    obtain ⟨H, hH⟩ : ∃ y, l / 2 = y := ⟨_, rfl⟩
    have hH' : l.tdiv 2 = H := by rw [Int.tdiv_eq_ediv_of_nonneg hl0]; exact hH
    obtain ⟨Y, hY⟩ : ∃ y, H * 8 = y := ⟨_, rfl⟩
    obtain ⟨N, hN⟩ : ∃ y, Y + s = y := ⟨_, rfl⟩
    have hr : unit ⟨pg, un, 1, mir, c, l, hh, p, bits, cnt, n, sel, lat, ctr, r0, r1, r2, r3, r4, r5, r6, r7, ld, al, ask⟩ s = N := by unfold unit; simp only; (repeat' split) <;> first | omega | (rename_i h; exact absurd trivial h) | (rename_i h _; exact absurd trivial h) | (rename_i h _ _; exact absurd trivial h) | (rename_i h _ _ _; exact absurd trivial h) | (rename_i h _ _ _ _; exact absurd trivial h)
    have hH0 : 0 ≤ H := by omega
    have hH1 : H < 16 := by omega
    have hY0 : 0 ≤ Y := by omega
    have hY1 : Y < 128 := by omega
    rw [hr]
    clear hr hM
    go_enter Try.func60, Try.ntmps60
    go_wp2
    go_ret
    exact ⟨rfl, rfl⟩
  · rw [hM] at hb16
    simp only [Int.reduceMul] at hb16
    by_cases g2 : s < 4
    · obtain ⟨Y, hY⟩ : ∃ y, l * 4 = y := ⟨_, rfl⟩
      obtain ⟨N, hN⟩ : ∃ y, Y + s = y := ⟨_, rfl⟩
      have hr : unit ⟨pg, un, 1, mir, c, l, hh, p, bits, cnt, n, sel, lat, ctr, r0, r1, r2, r3, r4, r5, r6, r7, ld, al, ask⟩ s = N := by unfold unit; simp only; (repeat' split) <;> first | omega | (rename_i h; exact absurd trivial h) | (rename_i h _; exact absurd trivial h) | (rename_i h _ _; exact absurd trivial h) | (rename_i h _ _ _; exact absurd trivial h) | (rename_i h _ _ _ _; exact absurd trivial h)
      have hY0 : 0 ≤ Y := by omega
      have hY1 : Y < 128 := by omega
      rw [hr]
      clear hr hM
      go_enter Try.func60, Try.ntmps60
      go_wp2
      go_ret
      exact ⟨rfl, rfl⟩
    · obtain ⟨Y, hY⟩ : ∃ y, hh * 4 = y := ⟨_, rfl⟩
      obtain ⟨X2, hX2⟩ : ∃ y, Y + s = y := ⟨_, rfl⟩
      obtain ⟨N, hN⟩ : ∃ y, X2 - 4 = y := ⟨_, rfl⟩
      have hr : unit ⟨pg, un, 1, mir, c, l, hh, p, bits, cnt, n, sel, lat, ctr, r0, r1, r2, r3, r4, r5, r6, r7, ld, al, ask⟩ s = N := by unfold unit; simp only; (repeat' split) <;> first | omega | (rename_i h; exact absurd trivial h) | (rename_i h _; exact absurd trivial h) | (rename_i h _ _; exact absurd trivial h) | (rename_i h _ _ _; exact absurd trivial h) | (rename_i h _ _ _ _; exact absurd trivial h)
      have hY0 : 0 ≤ Y := by omega
      have hY1 : Y < 128 := by omega
      have hX20 : 0 ≤ X2 := by omega
      have hX21 : X2 < 200 := by omega
      rw [hr]
      clear hr hM
      go_enter Try.func60, Try.ntmps60
      go_wp2
      go_ret
      exact ⟨rfl, rfl⟩

theorem ob1_put {w : World} {g : Nat} {S : St} (h : Ob1 w g S) (i : Nat) (u : Value) (T : St) (hc : (#[.int .i64 0, .int .u8 S.c, .int .u8 S.l, .int .u8 S.h, .int .u8 S.p, .int .u8 S.bits, .int .i64 S.cnt] : Array Value).setIfInBounds i u = #[.int .i64 0, .int .u8 T.c, .int .u8 T.l, .int .u8 T.h, .int .u8 T.p, .int .u8 T.bits, .int .i64 T.cnt]) : Ob1 (w.setCell ⟨g, i, none⟩ u) g T := by
  have := Blk.put h i u
  rw [hc] at this
  exact this
/-- What a call leaves that turns mapper 1. -/
def Done1 (w : World) (g : Nat) (S : St) (e : Ending) (w' : World) : Prop := e = .returned (.tuple #[]) ∧ Ob1 w' g S ∧ Fr [g] w w'
theorem done1_put {w w0 : World} {g : Nat} {S : St} (h : Ob1 w g S) (hf : Fr [g] w0 w) (i : Nat) (u : Value) (T : St) (hc : (#[.int .i64 0, .int .u8 S.c, .int .u8 S.l, .int .u8 S.h, .int .u8 S.p, .int .u8 S.bits, .int .i64 S.cnt] : Array Value).setIfInBounds i u = #[.int .i64 0, .int .u8 T.c, .int .u8 T.l, .int .u8 T.h, .int .u8 T.p, .int .u8 T.bits, .int .i64 T.cnt]) : Done1 w0 g T (.returned (.tuple #[])) (w.setCell ⟨g, i, none⟩ u) :=
  ⟨rfl, ob1_put h i u T hc, hf.setCell (by simp) u⟩

set_option maxRecDepth 100000 in
set_option maxHeartbeats 4000000 in
theorem sbegin_any (w : World) (g : Nat) (S : St) (h : Ob1 w g S) :
    Calls Try.prog 57 #[.pointer (some ⟨g, 0, none⟩)] w (Done1 w g { S with bits := 0, cnt := 0 }) := by
  obtain ⟨pg, un, mp, mir, c, l, hh, p, bits, cnt, n, sel, lat, ctr, r0, r1, r2, r3, r4, r5, r6, r7, ld, al, ask⟩ := S
  have HB := Lib.hid h
  have hb : Blk w g 85 #[.int .i64 0, .int .u8 c, .int .u8 l, .int .u8 hh, .int .u8 p, .int .u8 bits, .int .i64 cnt] := h
  obtain ⟨d0, d1, d2, d3, d4, d5, d6⟩ := blk7 hb
  have f5 := hb.frozen 5
  have f6 := hb.frozen 6
  clear hb h
  go_enter Try.func57, Try.ntmps57
  go_wp2
  (first | go_end0 | refine bodyPost_ret (results_none rfl _ _ _) rfl ?_)
  exact done1_put (ob1_put HB.out 5 _ ⟨pg, un, mp, mir, c, l, hh, p, 0, cnt, n, sel, lat, ctr, r0, r1, r2, r3, r4, r5, r6, r7, ld, al, ask⟩ rfl) ((Fr.refl [g] w).setCell (by simp) _) _ _ _ rfl

set_option maxRecDepth 100000 in
set_option maxHeartbeats 4000000 in
theorem swrite_any (w : World) (g : Nat) (S : St) (a v : Int) (h : Ob1 w g S) (hO : Ok S) (hv : byte v) (ha0 : 32768 ≤ a) (ha1 : a < 65536) :
    Calls Try.prog 61 #[.pointer (some ⟨g, 0, none⟩), .int .u16 a, .int .u8 v] w (Done1 w g (serW S a v)) := by
  have hor := or12 S.c (byte_five hO.c) hO.c.2
  have hvb := and1 v hv
  obtain ⟨hn0, hn1⟩ := hO.cnt
  have hbb : byte S.bits := ⟨hO.bits.1, by have := hO.bits.2; have := two_pos S.cnt; omega⟩
  have hob := fun b hb => or_bit S.cnt.toNat (by omega) S.bits hbb (by rw [Int.toNat_of_nonneg hn0]; exact hO.bits.2) b hb
  rw [Int.toNat_of_nonneg hn0] at hob
  obtain ⟨hb0, hb1⟩ := hO.bits
  obtain ⟨ht0, ht1⟩ := two_pos S.cnt
  clear hO hbb
  obtain ⟨pg, un, mp, mir, c, l, hh, p, bits, cnt, n, sel, lat, ctr, r0, r1, r2, r3, r4, r5, r6, r7, ld, al, ask⟩ := S
  have HB := Lib.hid h
  have hb : Blk w g 85 #[.int .i64 0, .int .u8 c, .int .u8 l, .int .u8 hh, .int .u8 p, .int .u8 bits, .int .i64 cnt] := h
  obtain ⟨d0, d1, d2, d3, d4, d5, d6⟩ := blk7 hb
  simp only at hor hvb hn0 hn1 hb0 hb1 hob ht0 ht1
  obtain ⟨hv0, hv1⟩ := hv
  by_cases h1 : 128 ≤ v
  · unfold serW
    rw [if_pos h1]
    have HA := Lib.hid (sbegin_any w g _ h)
    clear hb h d0 d1 d2 d3 d4 d5 d6 hob hb0 hb1 hn0 hn1
    simp only at HA
    go_enter Try.func61, Try.ntmps61
    go_wp2_with fail
    (with_reducible refine HA.out.mono ?_)
    rintro e w1 ⟨rfl, ho, hf⟩
    have HO1 := Lib.hid ho
    have HF1 := Lib.hid hf
    have hb : Blk w1 g 85 #[.int .i64 0, .int .u8 c, .int .u8 l, .int .u8 hh, .int .u8 p, .int .u8 0, .int .i64 0] := ho
    obtain ⟨d0, d1, d2, d3, d4, d5, d6⟩ := blk7 hb
    clear ho hf hb HA HB d0 d2 d3 d4 d5 d6
    go_upto_region 2 with fail
    go_still_tail 9, (by kernel_rfl)
    repeat still_step
    change wpList _ _ _ _ _ w1.drew
    have HO2 : Hid (Ob1 w1.drew g ⟨pg, un, mp, mir, c, l, hh, p, 0, 0, n, sel, lat, ctr, r0, r1, r2, r3, r4, r5, r6, r7, ld, al, ask⟩) := HO1
    have HF2 : Hid (Fr [g] w w1.drew) := Lib.hid HF1.out.drew
    have hb : Blk w1.drew g 85 #[.int .i64 0, .int .u8 c, .int .u8 l, .int .u8 hh, .int .u8 p, .int .u8 0, .int .i64 0] := HO1.out
    obtain ⟨-, e1, -⟩ := blk7 hb
    have f1 := hb.frozen 1
    clear hb d1 HO1 HF1
    generalize w1.drew = w2 at *
    go_wp2
    (first | go_end0 | refine bodyPost_ret (results_none rfl _ _ _) rfl ?_)
    exact done1_put HO2.out HF2.out _ _ _ rfl
  · have hx : v % 2 = 0 ∨ v % 2 = 1 := by omega
    obtain ⟨x, hX⟩ : ∃ x, v % 2 = x := ⟨_, rfl⟩
    rw [hX] at hvb hx
    have hobx := hob x hx
    have hx0 : 0 ≤ x := by omega
    have hx1 : x ≤ 1 := by omega
    obtain ⟨T2, hT2⟩ : ∃ y, two cnt = y := ⟨_, rfl⟩
    rw [hT2] at hb1 ht0 ht1 hobx
    obtain ⟨Y, hY⟩ : ∃ y, x * T2 = y := ⟨_, rfl⟩
    rw [hY] at hobx
    obtain ⟨NB, hNB⟩ : ∃ y, bits + Y = y := ⟨_, rfl⟩
    rw [hNB] at hobx
    obtain ⟨NC, hNC⟩ : ∃ y, cnt + 1 = y := ⟨_, rfl⟩
    have HW : Hid (∀ e w', Done1 w g (if cnt < 4 then ⟨pg, un, mp, mir, c, l, hh, p, NB, NC, n, sel, lat, ctr, r0, r1, r2, r3, r4, r5, r6, r7, ld, al, ask⟩ else if a < 40960 then ⟨pg, un, mp, mir, NB, l, hh, p, 0, 0, n, sel, lat, ctr, r0, r1, r2, r3, r4, r5, r6, r7, ld, al, ask⟩ else if a < 49152 then ⟨pg, un, mp, mir, c, NB, hh, p, 0, 0, n, sel, lat, ctr, r0, r1, r2, r3, r4, r5, r6, r7, ld, al, ask⟩ else if a < 57344 then ⟨pg, un, mp, mir, c, l, NB, p, 0, 0, n, sel, lat, ctr, r0, r1, r2, r3, r4, r5, r6, r7, ld, al, ask⟩ else ⟨pg, un, mp, mir, c, l, hh, NB, 0, 0, n, sel, lat, ctr, r0, r1, r2, r3, r4, r5, r6, r7, ld, al, ask⟩) e w' → Done1 w g (serW ⟨pg, un, mp, mir, c, l, hh, p, bits, cnt, n, sel, lat, ctr, r0, r1, r2, r3, r4, r5, r6, r7, ld, al, ask⟩ a v) e w') := Lib.hid (by
      intro e w' hd
      unfold serW
      rw [if_neg h1]
      simp only
      by_cases h4 : cnt < 4
      · rw [if_pos h4] at hd ⊢
        rw [hX, hT2, hY, hNB, hNC]
        exact hd
      · rw [if_neg h4] at hd ⊢
        obtain rfl : cnt = 4 := by omega
        have h16 : T2 = 16 := by rw [← hT2]; rfl
        rw [h16] at hY
        rw [hX, hY, hNB]
        exact hd)
    clear hob hX hY hNB hb0 hb1 hT2 ht0 ht1 h d1 d2 d3 d4
    go_enter Try.func61, Try.ntmps61
    go_upto_region 3 with fail
    go_still_tail 14, (by kernel_rfl)
    repeat still_step
    change wpList _ _ _ _ _ w.drew
    have HO2 : Hid (Ob1 w.drew g ⟨pg, un, mp, mir, c, l, hh, p, bits, cnt, n, sel, lat, ctr, r0, r1, r2, r3, r4, r5, r6, r7, ld, al, ask⟩) := HB
    have HF2 : Hid (Fr [g] w w.drew) := Lib.hid (Fr.refl [g] w).drew
    have hb : Blk w.drew g 85 #[.int .i64 0, .int .u8 c, .int .u8 l, .int .u8 hh, .int .u8 p, .int .u8 bits, .int .i64 cnt] := HB.out
    obtain ⟨-, -, -, -, -, e5, e6⟩ := blk7 hb
    have f5 := hb.frozen 5
    have f6 := hb.frozen 6
    clear hb HB d0 d5 d6
    generalize w.drew = w2 at *
    by_cases h4 : cnt < 4
    · have hN5 : (NC == 5) = false := by rw [beq_eq_false_iff_ne]; omega
      have HE : Hid (Done1 w g (serW ⟨pg, un, mp, mir, c, l, hh, p, bits, cnt, n, sel, lat, ctr, r0, r1, r2, r3, r4, r5, r6, r7, ld, al, ask⟩ a v) (.returned (.tuple #[])) ((w2.setCell ⟨g, 5, none⟩ (.int .u8 NB)).setCell ⟨g, 6, none⟩ (.int .i64 NC))) := Lib.hid (HW.out _ _ (by
        rw [if_pos h4]
        exact done1_put (ob1_put HO2.out 5 _ ⟨pg, un, mp, mir, c, l, hh, p, NB, cnt, n, sel, lat, ctr, r0, r1, r2, r3, r4, r5, r6, r7, ld, al, ask⟩ rfl) (HF2.out.setCell (by simp) _) 6 _ _ rfl))
      clear HW
      go_wp2
      (first | go_end0 | refine bodyPost_ret (results_none rfl _ _ _) rfl ?_)
      exact HE.out
    · obtain rfl : cnt = 4 := by omega
      obtain rfl : NC = 5 := by omega
      have HO3 : Hid (Ob1 ((w2.setCell ⟨g, 5, none⟩ (.int .u8 NB)).setCell ⟨g, 6, none⟩ (.int .i64 5)) g ⟨pg, un, mp, mir, c, l, hh, p, NB, 5, n, sel, lat, ctr, r0, r1, r2, r3, r4, r5, r6, r7, ld, al, ask⟩) := Lib.hid (ob1_put (ob1_put HO2.out 5 _ ⟨pg, un, mp, mir, c, l, hh, p, NB, 4, n, sel, lat, ctr, r0, r1, r2, r3, r4, r5, r6, r7, ld, al, ask⟩ rfl) 6 _ _ rfl)
      have HF3 : Hid (Fr [g] w ((w2.setCell ⟨g, 5, none⟩ (.int .u8 NB)).setCell ⟨g, 6, none⟩ (.int .i64 5))) := Lib.hid ((HF2.out.setCell (by simp) _).setCell (by simp) _)
      have HW' : Hid (∀ e w', Done1 w g (if a < 40960 then ⟨pg, un, mp, mir, NB, l, hh, p, 0, 0, n, sel, lat, ctr, r0, r1, r2, r3, r4, r5, r6, r7, ld, al, ask⟩ else if a < 49152 then ⟨pg, un, mp, mir, c, NB, hh, p, 0, 0, n, sel, lat, ctr, r0, r1, r2, r3, r4, r5, r6, r7, ld, al, ask⟩ else if a < 57344 then ⟨pg, un, mp, mir, c, l, NB, p, 0, 0, n, sel, lat, ctr, r0, r1, r2, r3, r4, r5, r6, r7, ld, al, ask⟩ else ⟨pg, un, mp, mir, c, l, hh, NB, 0, 0, n, sel, lat, ctr, r0, r1, r2, r3, r4, r5, r6, r7, ld, al, ask⟩) e w' → Done1 w g (serW ⟨pg, un, mp, mir, c, l, hh, p, bits, 4, n, sel, lat, ctr, r0, r1, r2, r3, r4, r5, r6, r7, ld, al, ask⟩ a v) e w') := Lib.hid (fun e w' hd => HW.out e w' (by rw [if_neg h4]; exact hd))
      have HSp := Lib.hid (fun s hs W => spanOf_any W a s ha0 ha1 hs)
      clear HW h4 HO2 HF2 hx
      go_upto_region 6 with fail
      generalize (w2.setCell _ _).setCell _ _ = w3 at *
      have hb3 : Blk w3 g 85 #[.int .i64 0, .int .u8 c, .int .u8 l, .int .u8 hh, .int .u8 p, .int .u8 NB, .int .i64 5] := HO3.out
      obtain ⟨-, d1, d2, d3, d4, d5, d6⟩ := blk7 hb3
      clear hb3
      have hs : ∃ s : Int, a / 8192 - 4 = s ∧ 0 ≤ s ∧ s < 4 := ⟨_, rfl, by omega, by omega⟩
      obtain ⟨s, hs, hs0, hs1⟩ := hs
      obtain rfl | rfl | rfl | rfl : s = 0 ∨ s = 1 ∨ s = 2 ∨ s = 3 := by omega
      · have HQ : Hid (∀ e w', Done1 w g ⟨pg, un, mp, mir, NB, l, hh, p, 0, 0, n, sel, lat, ctr, r0, r1, r2, r3, r4, r5, r6, r7, ld, al, ask⟩ e w' → Done1 w g (serW ⟨pg, un, mp, mir, c, l, hh, p, bits, 4, n, sel, lat, ctr, r0, r1, r2, r3, r4, r5, r6, r7, ld, al, ask⟩ a v) e w') := Lib.hid (fun e w' hd => HW'.out e w' (by rw [if_pos (by omega)]; exact hd))
        clear HW'
        go_still_tail 10, (by kernel_rfl)
        still_call ((HSp.out _ hs _).mono fun e w' h => ⟨h.1, h.2.symm⟩)
        repeat still_step
        try refine wpStill_nil ?_
        change wpList _ _ _ _ _ w3.drew
        have HO4 : Hid (Ob1 w3.drew g ⟨pg, un, mp, mir, c, l, hh, p, NB, 5, n, sel, lat, ctr, r0, r1, r2, r3, r4, r5, r6, r7, ld, al, ask⟩) := HO3
        have HF4 : Hid (Fr [g] w w3.drew) := Lib.hid HF3.out.drew
        have hb : Blk w3.drew g 85 #[.int .i64 0, .int .u8 c, .int .u8 l, .int .u8 hh, .int .u8 p, .int .u8 NB, .int .i64 5] := HO3.out
        obtain ⟨-, e1, e2, e3, e4, -, -⟩ := blk7 hb
        have f1 := hb.frozen 1
        have f2 := hb.frozen 2
        have f3 := hb.frozen 3
        have f4 := hb.frozen 4
        clear hb d1 d2 d3 d4 d5 d6 HO3 HF3
        generalize w3.drew = w4 at *
        go_wp2_with fail
        (with_reducible refine (sbegin_any _ g ⟨pg, un, mp, mir, NB, l, hh, p, NB, 5, n, sel, lat, ctr, r0, r1, r2, r3, r4, r5, r6, r7, ld, al, ask⟩ (ob1_put HO4.out _ _ _ rfl)).mono ?_)
        rintro e w5 ⟨rfl, ho, hf⟩
        have HOz := Lib.hid ho
        have HFz := Lib.hid ((HF4.out.setCell (by simp) _).tr hf)
        clear ho hf
        go_wp2
        (first | go_end0 | refine bodyPost_ret (results_none rfl _ _ _) rfl ?_)
        exact HQ.out _ _ ⟨rfl, HOz.out, HFz.out⟩
      · have HQ : Hid (∀ e w', Done1 w g ⟨pg, un, mp, mir, c, NB, hh, p, 0, 0, n, sel, lat, ctr, r0, r1, r2, r3, r4, r5, r6, r7, ld, al, ask⟩ e w' → Done1 w g (serW ⟨pg, un, mp, mir, c, l, hh, p, bits, 4, n, sel, lat, ctr, r0, r1, r2, r3, r4, r5, r6, r7, ld, al, ask⟩ a v) e w') := Lib.hid (fun e w' hd => HW'.out e w' (by rw [if_neg (by omega), if_pos (by omega)]; exact hd))
        clear HW'
        go_still_tail 10, (by kernel_rfl)
        still_call ((HSp.out _ hs _).mono fun e w' h => ⟨h.1, h.2.symm⟩)
        repeat still_step
        try refine wpStill_nil ?_
        change wpList _ _ _ _ _ w3.drew
        have HO4 : Hid (Ob1 w3.drew g ⟨pg, un, mp, mir, c, l, hh, p, NB, 5, n, sel, lat, ctr, r0, r1, r2, r3, r4, r5, r6, r7, ld, al, ask⟩) := HO3
        have HF4 : Hid (Fr [g] w w3.drew) := Lib.hid HF3.out.drew
        have hb : Blk w3.drew g 85 #[.int .i64 0, .int .u8 c, .int .u8 l, .int .u8 hh, .int .u8 p, .int .u8 NB, .int .i64 5] := HO3.out
        obtain ⟨-, e1, e2, e3, e4, -, -⟩ := blk7 hb
        have f1 := hb.frozen 1
        have f2 := hb.frozen 2
        have f3 := hb.frozen 3
        have f4 := hb.frozen 4
        clear hb d1 d2 d3 d4 d5 d6 HO3 HF3
        generalize w3.drew = w4 at *
        go_wp2_with fail
        (with_reducible refine (sbegin_any _ g ⟨pg, un, mp, mir, c, NB, hh, p, NB, 5, n, sel, lat, ctr, r0, r1, r2, r3, r4, r5, r6, r7, ld, al, ask⟩ (ob1_put HO4.out _ _ _ rfl)).mono ?_)
        rintro e w5 ⟨rfl, ho, hf⟩
        have HOz := Lib.hid ho
        have HFz := Lib.hid ((HF4.out.setCell (by simp) _).tr hf)
        clear ho hf
        go_wp2
        (first | go_end0 | refine bodyPost_ret (results_none rfl _ _ _) rfl ?_)
        exact HQ.out _ _ ⟨rfl, HOz.out, HFz.out⟩
      · have HQ : Hid (∀ e w', Done1 w g ⟨pg, un, mp, mir, c, l, NB, p, 0, 0, n, sel, lat, ctr, r0, r1, r2, r3, r4, r5, r6, r7, ld, al, ask⟩ e w' → Done1 w g (serW ⟨pg, un, mp, mir, c, l, hh, p, bits, 4, n, sel, lat, ctr, r0, r1, r2, r3, r4, r5, r6, r7, ld, al, ask⟩ a v) e w') := Lib.hid (fun e w' hd => HW'.out e w' (by rw [if_neg (by omega), if_neg (by omega), if_pos (by omega)]; exact hd))
        clear HW'
        go_still_tail 10, (by kernel_rfl)
        still_call ((HSp.out _ hs _).mono fun e w' h => ⟨h.1, h.2.symm⟩)
        repeat still_step
        try refine wpStill_nil ?_
        change wpList _ _ _ _ _ w3.drew
        have HO4 : Hid (Ob1 w3.drew g ⟨pg, un, mp, mir, c, l, hh, p, NB, 5, n, sel, lat, ctr, r0, r1, r2, r3, r4, r5, r6, r7, ld, al, ask⟩) := HO3
        have HF4 : Hid (Fr [g] w w3.drew) := Lib.hid HF3.out.drew
        have hb : Blk w3.drew g 85 #[.int .i64 0, .int .u8 c, .int .u8 l, .int .u8 hh, .int .u8 p, .int .u8 NB, .int .i64 5] := HO3.out
        obtain ⟨-, e1, e2, e3, e4, -, -⟩ := blk7 hb
        have f1 := hb.frozen 1
        have f2 := hb.frozen 2
        have f3 := hb.frozen 3
        have f4 := hb.frozen 4
        clear hb d1 d2 d3 d4 d5 d6 HO3 HF3
        generalize w3.drew = w4 at *
        go_wp2_with fail
        (with_reducible refine (sbegin_any _ g ⟨pg, un, mp, mir, c, l, NB, p, NB, 5, n, sel, lat, ctr, r0, r1, r2, r3, r4, r5, r6, r7, ld, al, ask⟩ (ob1_put HO4.out _ _ _ rfl)).mono ?_)
        rintro e w5 ⟨rfl, ho, hf⟩
        have HOz := Lib.hid ho
        have HFz := Lib.hid ((HF4.out.setCell (by simp) _).tr hf)
        clear ho hf
        go_wp2
        (first | go_end0 | refine bodyPost_ret (results_none rfl _ _ _) rfl ?_)
        exact HQ.out _ _ ⟨rfl, HOz.out, HFz.out⟩
      · have HQ : Hid (∀ e w', Done1 w g ⟨pg, un, mp, mir, c, l, hh, NB, 0, 0, n, sel, lat, ctr, r0, r1, r2, r3, r4, r5, r6, r7, ld, al, ask⟩ e w' → Done1 w g (serW ⟨pg, un, mp, mir, c, l, hh, p, bits, 4, n, sel, lat, ctr, r0, r1, r2, r3, r4, r5, r6, r7, ld, al, ask⟩ a v) e w') := Lib.hid (fun e w' hd => HW'.out e w' (by rw [if_neg (by omega), if_neg (by omega), if_neg (by omega)]; exact hd))
        clear HW'
        go_still_tail 10, (by kernel_rfl)
        still_call ((HSp.out _ hs _).mono fun e w' h => ⟨h.1, h.2.symm⟩)
        repeat still_step
        try refine wpStill_nil ?_
        change wpList _ _ _ _ _ w3.drew
        have HO4 : Hid (Ob1 w3.drew g ⟨pg, un, mp, mir, c, l, hh, p, NB, 5, n, sel, lat, ctr, r0, r1, r2, r3, r4, r5, r6, r7, ld, al, ask⟩) := HO3
        have HF4 : Hid (Fr [g] w w3.drew) := Lib.hid HF3.out.drew
        have hb : Blk w3.drew g 85 #[.int .i64 0, .int .u8 c, .int .u8 l, .int .u8 hh, .int .u8 p, .int .u8 NB, .int .i64 5] := HO3.out
        obtain ⟨-, e1, e2, e3, e4, -, -⟩ := blk7 hb
        have f1 := hb.frozen 1
        have f2 := hb.frozen 2
        have f3 := hb.frozen 3
        have f4 := hb.frozen 4
        clear hb d1 d2 d3 d4 d5 d6 HO3 HF3
        generalize w3.drew = w4 at *
        go_wp2_with fail
        (with_reducible refine (sbegin_any _ g ⟨pg, un, mp, mir, c, l, hh, NB, NB, 5, n, sel, lat, ctr, r0, r1, r2, r3, r4, r5, r6, r7, ld, al, ask⟩ (ob1_put HO4.out _ _ _ rfl)).mono ?_)
        rintro e w5 ⟨rfl, ho, hf⟩
        have HOz := Lib.hid ho
        have HFz := Lib.hid ((HF4.out.setCell (by simp) _).tr hf)
        clear ho hf
        go_wp2
        (first | go_end0 | refine bodyPost_ret (results_none rfl _ _ _) rfl ?_)
        exact HQ.out _ _ ⟨rfl, HOz.out, HFz.out⟩

end Nm
end Go.Proofs.Ytgakdlbdbiacgaa
