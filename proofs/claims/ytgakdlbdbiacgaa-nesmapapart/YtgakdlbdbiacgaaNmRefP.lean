/-
  Contracts of the document's Page and PRG. Condition: the state is one that there is.
-/
import Derived.Test.YtgakdlbdbiacgaaNmObj
namespace Go.Proofs.Ytgakdlbdbiacgaa
open Go.RowKit
namespace Nm

set_option maxRecDepth 100000 in
set_option maxHeartbeats 4000000 in
theorem rpage0 (w : World) (q : Nat) (S : St) (a s : Int) (h : RefAt w q S) (ha0 : 32768 ≤ a) (ha1 : a < 65536) (hs : a / 8192 - 4 = s) (hO : Ok S) (hmp : S.mp = 0) :
    Calls Try.prog 25 #[.pointer (some ⟨q, 0, none⟩), .int .u16 a] w fun e w' => e = .returned (.int .i64 (raw S s % S.pg)) ∧ w = w' := by
  obtain ⟨hm0, hm1⟩ := hO.mp
  obtain ⟨hg0, hg1⟩ := hO.pg
  obtain ⟨hc0, hc1⟩ := hO.c
  obtain ⟨hp0, hp1⟩ := hO.p
  obtain ⟨hn0, hn1⟩ := hO.n
  obtain ⟨hl0, hl1⟩ := hO.sel
  obtain ⟨h60, h61⟩ := hO.r6
  obtain ⟨h70, h71⟩ := hO.r7
  clear hO
  obtain ⟨pg, un, mp, mir, c, l, hh, p, bits, cnt, n, sel, lat, ctr, r0, r1, r2, r3, r4, r5, r6, r7, ld, al, ask⟩ := S
  have HB := Lib.hid h
  have hb : Blk w q 40 #[.int .i64 pg, .int .i64 un, .int .i64 mp, .int .i64 mir, .int .i64 c, .int .i64 l, .int .i64 hh, .int .i64 p, .int .i64 bits, .int .i64 cnt, .int .i64 n, .int .i64 sel, .int .i64 lat, .int .i64 ctr, .int .i64 r0, .int .i64 r1, .int .i64 r2, .int .i64 r3, .int .i64 r4, .int .i64 r5, .int .i64 r6, .int .i64 r7, .bool ld, .bool al, .bool ask] := h
  obtain ⟨d0, -, d2, -, d4, -, -, d7, -, -, d10, d11, -, -, -, -, -, -, -, -, d20, d21, -, -, -⟩ := blk25 hb
  simp only at hm0 hm1 hg0 hg1 hc0 hc1 hp0 hp1 hn0 hn1 hl0 hl1 h60 h61 h70 h71 ⊢
  clear hb h HB
  have ha00 : 0 ≤ a := by omega
  have ha2 : ¬ a < 32768 := by omega
  have tm : ∀ x y : Int, 0 ≤ x → x.tmod y = x % y := fun x y hx => Int.tmod_eq_emod_of_nonneg hx
  have td : ∀ x y : Int, 0 ≤ x → x.tdiv y = x / y := fun x y hx => Int.tdiv_eq_ediv_of_nonneg hx
  obtain ⟨t, ht⟩ : ∃ t, a / 8192 = t := ⟨_, rfl⟩
  have ht' : a.tdiv 8192 = t := by rw [td _ _ ha00]; exact ht
  rw [ht] at hs
  have ht0 : 4 ≤ t := by omega
  have ht1 : t ≤ 7 := by omega
  have hs0 : 0 ≤ s := by omega
  have hs1 : s ≤ 3 := by omega
  have hgz : ¬ pg = 0 := by omega
  have hgz' : (pg == 0) = false := by rw [beq_eq_false_iff_ne]; exact hgz
  have key : ∀ N : Int, 0 ≤ N → raw ⟨pg, un, mp, mir, c, l, hh, p, bits, cnt, n, sel, lat, ctr, r0, r1, r2, r3, r4, r5, r6, r7, ld, al, ask⟩ s = N → ∃ r, raw ⟨pg, un, mp, mir, c, l, hh, p, bits, cnt, n, sel, lat, ctr, r0, r1, r2, r3, r4, r5, r6, r7, ld, al, ask⟩ s % pg = r ∧ N % pg = r ∧ N.tmod pg = r := fun N hN hr => ⟨_, rfl, by rw [hr], by rw [hr, tm _ _ hN]⟩
  obtain ⟨M4, hM4⟩ : ∃ y, c / 4 = y := ⟨_, rfl⟩
  have hM4' : c.tdiv 4 = M4 := by rw [td _ _ hc0]; exact hM4
  obtain ⟨M, hM⟩ : ∃ y, M4 % 4 = y := ⟨_, rfl⟩
  have hM' : M4.tmod 4 = M := by rw [tm _ _ (by omega)]; exact hM
  have hM0 : 0 ≤ M := by omega
  have hM1 : M < 4 := by omega
  obtain ⟨B, hB⟩ : ∃ y, p % 16 = y := ⟨_, rfl⟩
  have hB' : p.tmod 16 = B := by rw [tm _ _ hp0]; exact hB
  have hB0 : 0 ≤ B := by omega
  have hB1 : B < 16 := by omega
  obtain ⟨Q4, hQ4⟩ : ∃ y, sel / 64 = y := ⟨_, rfl⟩
  have hQ4' : sel.tdiv 64 = Q4 := by rw [td _ _ hl0]; exact hQ4
  have hQ0 : 0 ≤ Q4 := by omega
  obtain ⟨Q, hQ⟩ : ∃ y, Q4 % 2 = y := ⟨_, rfl⟩
  have hQ' : Q4.tmod 2 = Q := by rw [tm _ _ hQ0]; exact hQ
  have hQc : Q = 0 ∨ Q = 1 := by omega
  simp only at hmp
  subst hmp
  clear hm0 hm1
  obtain ⟨r, hr, hr1, hr2⟩ := key s (by omega) (by unfold raw; simp only; (repeat' split) <;> first | omega | (rename_i h; exact absurd trivial h) | (rename_i h _; exact absurd trivial h) | (rename_i h _ _; exact absurd trivial h) | (rename_i h _ _ _; exact absurd trivial h))
  rw [hr]
  clear key tm td hr
  go_enter Try.func25, Try.ntmps25
  go_wp2
  go_ret
  exact ⟨rfl, rfl⟩

set_option maxRecDepth 100000 in
set_option maxHeartbeats 4000000 in
theorem rpage3 (w : World) (q : Nat) (S : St) (a s : Int) (h : RefAt w q S) (ha0 : 32768 ≤ a) (ha1 : a < 65536) (hs : a / 8192 - 4 = s) (hO : Ok S) (hmp : S.mp = 3) :
    Calls Try.prog 25 #[.pointer (some ⟨q, 0, none⟩), .int .u16 a] w fun e w' => e = .returned (.int .i64 (raw S s % S.pg)) ∧ w = w' := by
  obtain ⟨hm0, hm1⟩ := hO.mp
  obtain ⟨hg0, hg1⟩ := hO.pg
  obtain ⟨hc0, hc1⟩ := hO.c
  obtain ⟨hp0, hp1⟩ := hO.p
  obtain ⟨hn0, hn1⟩ := hO.n
  obtain ⟨hl0, hl1⟩ := hO.sel
  obtain ⟨h60, h61⟩ := hO.r6
  obtain ⟨h70, h71⟩ := hO.r7
  clear hO
  obtain ⟨pg, un, mp, mir, c, l, hh, p, bits, cnt, n, sel, lat, ctr, r0, r1, r2, r3, r4, r5, r6, r7, ld, al, ask⟩ := S
  have HB := Lib.hid h
  have hb : Blk w q 40 #[.int .i64 pg, .int .i64 un, .int .i64 mp, .int .i64 mir, .int .i64 c, .int .i64 l, .int .i64 hh, .int .i64 p, .int .i64 bits, .int .i64 cnt, .int .i64 n, .int .i64 sel, .int .i64 lat, .int .i64 ctr, .int .i64 r0, .int .i64 r1, .int .i64 r2, .int .i64 r3, .int .i64 r4, .int .i64 r5, .int .i64 r6, .int .i64 r7, .bool ld, .bool al, .bool ask] := h
  obtain ⟨d0, -, d2, -, d4, -, -, d7, -, -, d10, d11, -, -, -, -, -, -, -, -, d20, d21, -, -, -⟩ := blk25 hb
  simp only at hm0 hm1 hg0 hg1 hc0 hc1 hp0 hp1 hn0 hn1 hl0 hl1 h60 h61 h70 h71 ⊢
  clear hb h HB
  have ha00 : 0 ≤ a := by omega
  have ha2 : ¬ a < 32768 := by omega
  have tm : ∀ x y : Int, 0 ≤ x → x.tmod y = x % y := fun x y hx => Int.tmod_eq_emod_of_nonneg hx
  have td : ∀ x y : Int, 0 ≤ x → x.tdiv y = x / y := fun x y hx => Int.tdiv_eq_ediv_of_nonneg hx
  obtain ⟨t, ht⟩ : ∃ t, a / 8192 = t := ⟨_, rfl⟩
  have ht' : a.tdiv 8192 = t := by rw [td _ _ ha00]; exact ht
  rw [ht] at hs
  have ht0 : 4 ≤ t := by omega
  have ht1 : t ≤ 7 := by omega
  have hs0 : 0 ≤ s := by omega
  have hs1 : s ≤ 3 := by omega
  have hgz : ¬ pg = 0 := by omega
  have hgz' : (pg == 0) = false := by rw [beq_eq_false_iff_ne]; exact hgz
  have key : ∀ N : Int, 0 ≤ N → raw ⟨pg, un, mp, mir, c, l, hh, p, bits, cnt, n, sel, lat, ctr, r0, r1, r2, r3, r4, r5, r6, r7, ld, al, ask⟩ s = N → ∃ r, raw ⟨pg, un, mp, mir, c, l, hh, p, bits, cnt, n, sel, lat, ctr, r0, r1, r2, r3, r4, r5, r6, r7, ld, al, ask⟩ s % pg = r ∧ N % pg = r ∧ N.tmod pg = r := fun N hN hr => ⟨_, rfl, by rw [hr], by rw [hr, tm _ _ hN]⟩
  obtain ⟨M4, hM4⟩ : ∃ y, c / 4 = y := ⟨_, rfl⟩
  have hM4' : c.tdiv 4 = M4 := by rw [td _ _ hc0]; exact hM4
  obtain ⟨M, hM⟩ : ∃ y, M4 % 4 = y := ⟨_, rfl⟩
  have hM' : M4.tmod 4 = M := by rw [tm _ _ (by omega)]; exact hM
  have hM0 : 0 ≤ M := by omega
  have hM1 : M < 4 := by omega
  obtain ⟨B, hB⟩ : ∃ y, p % 16 = y := ⟨_, rfl⟩
  have hB' : p.tmod 16 = B := by rw [tm _ _ hp0]; exact hB
  have hB0 : 0 ≤ B := by omega
  have hB1 : B < 16 := by omega
  obtain ⟨Q4, hQ4⟩ : ∃ y, sel / 64 = y := ⟨_, rfl⟩
  have hQ4' : sel.tdiv 64 = Q4 := by rw [td _ _ hl0]; exact hQ4
  have hQ0 : 0 ≤ Q4 := by omega
  obtain ⟨Q, hQ⟩ : ∃ y, Q4 % 2 = y := ⟨_, rfl⟩
  have hQ' : Q4.tmod 2 = Q := by rw [tm _ _ hQ0]; exact hQ
  have hQc : Q = 0 ∨ Q = 1 := by omega
  simp only at hmp
  subst hmp
  clear hm0 hm1
  obtain ⟨r, hr, hr1, hr2⟩ := key s (by omega) (by unfold raw; simp only; (repeat' split) <;> first | omega | (rename_i h; exact absurd trivial h) | (rename_i h _; exact absurd trivial h) | (rename_i h _ _; exact absurd trivial h) | (rename_i h _ _ _; exact absurd trivial h))
  rw [hr]
  clear key tm td hr
  go_enter Try.func25, Try.ntmps25
  go_wp2
  go_ret
  exact ⟨rfl, rfl⟩

set_option maxRecDepth 100000 in
set_option maxHeartbeats 4000000 in
theorem rpage1 (w : World) (q : Nat) (S : St) (a s : Int) (h : RefAt w q S) (ha0 : 32768 ≤ a) (ha1 : a < 65536) (hs : a / 8192 - 4 = s) (hO : Ok S) (hmp : S.mp = 1) :
    Calls Try.prog 25 #[.pointer (some ⟨q, 0, none⟩), .int .u16 a] w fun e w' => e = .returned (.int .i64 (raw S s % S.pg)) ∧ w = w' := by
  obtain ⟨hm0, hm1⟩ := hO.mp
  obtain ⟨hg0, hg1⟩ := hO.pg
  obtain ⟨hc0, hc1⟩ := hO.c
  obtain ⟨hp0, hp1⟩ := hO.p
  obtain ⟨hn0, hn1⟩ := hO.n
  obtain ⟨hl0, hl1⟩ := hO.sel
  obtain ⟨h60, h61⟩ := hO.r6
  obtain ⟨h70, h71⟩ := hO.r7
  clear hO
  obtain ⟨pg, un, mp, mir, c, l, hh, p, bits, cnt, n, sel, lat, ctr, r0, r1, r2, r3, r4, r5, r6, r7, ld, al, ask⟩ := S
  have HB := Lib.hid h
  have hb : Blk w q 40 #[.int .i64 pg, .int .i64 un, .int .i64 mp, .int .i64 mir, .int .i64 c, .int .i64 l, .int .i64 hh, .int .i64 p, .int .i64 bits, .int .i64 cnt, .int .i64 n, .int .i64 sel, .int .i64 lat, .int .i64 ctr, .int .i64 r0, .int .i64 r1, .int .i64 r2, .int .i64 r3, .int .i64 r4, .int .i64 r5, .int .i64 r6, .int .i64 r7, .bool ld, .bool al, .bool ask] := h
  obtain ⟨d0, -, d2, -, d4, -, -, d7, -, -, d10, d11, -, -, -, -, -, -, -, -, d20, d21, -, -, -⟩ := blk25 hb
  simp only at hm0 hm1 hg0 hg1 hc0 hc1 hp0 hp1 hn0 hn1 hl0 hl1 h60 h61 h70 h71 ⊢
  clear hb h HB
  have ha00 : 0 ≤ a := by omega
  have ha2 : ¬ a < 32768 := by omega
  have tm : ∀ x y : Int, 0 ≤ x → x.tmod y = x % y := fun x y hx => Int.tmod_eq_emod_of_nonneg hx
  have td : ∀ x y : Int, 0 ≤ x → x.tdiv y = x / y := fun x y hx => Int.tdiv_eq_ediv_of_nonneg hx
  obtain ⟨t, ht⟩ : ∃ t, a / 8192 = t := ⟨_, rfl⟩
  have ht' : a.tdiv 8192 = t := by rw [td _ _ ha00]; exact ht
  rw [ht] at hs
  have ht0 : 4 ≤ t := by omega
  have ht1 : t ≤ 7 := by omega
  have hs0 : 0 ≤ s := by omega
  have hs1 : s ≤ 3 := by omega
  have hgz : ¬ pg = 0 := by omega
  have hgz' : (pg == 0) = false := by rw [beq_eq_false_iff_ne]; exact hgz
  have key : ∀ N : Int, 0 ≤ N → raw ⟨pg, un, mp, mir, c, l, hh, p, bits, cnt, n, sel, lat, ctr, r0, r1, r2, r3, r4, r5, r6, r7, ld, al, ask⟩ s = N → ∃ r, raw ⟨pg, un, mp, mir, c, l, hh, p, bits, cnt, n, sel, lat, ctr, r0, r1, r2, r3, r4, r5, r6, r7, ld, al, ask⟩ s % pg = r ∧ N % pg = r ∧ N.tmod pg = r := fun N hN hr => ⟨_, rfl, by rw [hr], by rw [hr, tm _ _ hN]⟩
  obtain ⟨M4, hM4⟩ : ∃ y, c / 4 = y := ⟨_, rfl⟩
  have hM4' : c.tdiv 4 = M4 := by rw [td _ _ hc0]; exact hM4
  obtain ⟨M, hM⟩ : ∃ y, M4 % 4 = y := ⟨_, rfl⟩
  have hM' : M4.tmod 4 = M := by rw [tm _ _ (by omega)]; exact hM
  have hM0 : 0 ≤ M := by omega
  have hM1 : M < 4 := by omega
  obtain ⟨B, hB⟩ : ∃ y, p % 16 = y := ⟨_, rfl⟩
  have hB' : p.tmod 16 = B := by rw [tm _ _ hp0]; exact hB
  have hB0 : 0 ≤ B := by omega
  have hB1 : B < 16 := by omega
  obtain ⟨Q4, hQ4⟩ : ∃ y, sel / 64 = y := ⟨_, rfl⟩
  have hQ4' : sel.tdiv 64 = Q4 := by rw [td _ _ hl0]; exact hQ4
  have hQ0 : 0 ≤ Q4 := by omega
  obtain ⟨Q, hQ⟩ : ∃ y, Q4 % 2 = y := ⟨_, rfl⟩
  have hQ' : Q4.tmod 2 = Q := by rw [tm _ _ hQ0]; exact hQ
  have hQc : Q = 0 ∨ Q = 1 := by omega
  simp only at hmp
  subst hmp
  clear hm0 hm1
  by_cases g1 : M < 2
  · have g2 : (M == 2) = false := by rw [beq_eq_false_iff_ne]; omega
    have g3 : (M == 3) = false := by rw [beq_eq_false_iff_ne]; omega
    obtain ⟨H, hH⟩ : ∃ y, B / 2 = y := ⟨_, rfl⟩
    have hH' : B.tdiv 2 = H := by rw [td _ _ hB0]; exact hH
    obtain ⟨X1, hX1⟩ : ∃ y, H * 4 = y := ⟨_, rfl⟩
    obtain ⟨N, hN⟩ : ∃ y, X1 + s = y := ⟨_, rfl⟩
    have hX10 : 0 ≤ X1 := by omega
    have hX11 : X1 < 4096 := by omega
    have hN0 : 0 ≤ N := by omega
    have hN1 : N < 4096 := by omega
    obtain ⟨r, hr, hr1, hr2⟩ := key N (by omega) (by unfold raw; simp only; (repeat' split) <;> first | omega | (rename_i h; exact absurd trivial h) | (rename_i h _; exact absurd trivial h) | (rename_i h _ _; exact absurd trivial h) | (rename_i h _ _ _; exact absurd trivial h))
    rw [hr]
    clear key tm td hr
    go_enter Try.func25, Try.ntmps25
    go_wp2
    go_ret
    exact ⟨rfl, rfl⟩
  by_cases g2 : M = 2
  · subst g2
    by_cases g3 : s < 2
    · have g4 : ¬ 2 ≤ s := by omega
      obtain ⟨r, hr, hr1, hr2⟩ := key s (by omega) (by unfold raw; simp only; (repeat' split) <;> first | omega | (rename_i h; exact absurd trivial h) | (rename_i h _; exact absurd trivial h) | (rename_i h _ _; exact absurd trivial h) | (rename_i h _ _ _; exact absurd trivial h))
      rw [hr]
      clear key tm td hr
      go_enter Try.func25, Try.ntmps25
      go_wp2
      go_ret
      exact ⟨rfl, rfl⟩
    · have g4 : 2 ≤ s := by omega
      obtain ⟨X1, hX1⟩ : ∃ y, B * 2 = y := ⟨_, rfl⟩
      obtain ⟨X2, hX2⟩ : ∃ y, X1 + s = y := ⟨_, rfl⟩
      obtain ⟨N, hN⟩ : ∃ y, X2 - 2 = y := ⟨_, rfl⟩
      have hX10 : 0 ≤ X1 := by omega
      have hX11 : X1 < 4096 := by omega
      have hX20 : 0 ≤ X2 := by omega
      have hX21 : X2 < 4096 := by omega
      have hN0 : 0 ≤ N := by omega
      have hN1 : N < 4096 := by omega
      obtain ⟨r, hr, hr1, hr2⟩ := key N (by omega) (by unfold raw; simp only; (repeat' split) <;> first | omega | (rename_i h; exact absurd trivial h) | (rename_i h _; exact absurd trivial h) | (rename_i h _ _; exact absurd trivial h) | (rename_i h _ _ _; exact absurd trivial h))
      rw [hr]
      clear key tm td hr
      go_enter Try.func25, Try.ntmps25
      go_wp2
      go_ret
      exact ⟨rfl, rfl⟩
  obtain rfl : M = 3 := by omega
  by_cases g3 : s < 2
  · have g4 : ¬ 2 ≤ s := by omega
    obtain ⟨X1, hX1⟩ : ∃ y, B * 2 = y := ⟨_, rfl⟩
    obtain ⟨N, hN⟩ : ∃ y, X1 + s = y := ⟨_, rfl⟩
    have hX10 : 0 ≤ X1 := by omega
    have hX11 : X1 < 4096 := by omega
    have hN0 : 0 ≤ N := by omega
    have hN1 : N < 4096 := by omega
    obtain ⟨r, hr, hr1, hr2⟩ := key N (by omega) (by unfold raw; simp only; (repeat' split) <;> first | omega | (rename_i h; exact absurd trivial h) | (rename_i h _; exact absurd trivial h) | (rename_i h _ _; exact absurd trivial h) | (rename_i h _ _ _; exact absurd trivial h))
    rw [hr]
    clear key tm td hr
    go_enter Try.func25, Try.ntmps25
    go_wp2
    go_ret
    exact ⟨rfl, rfl⟩
  · have g4 : 2 ≤ s := by omega
    have g5 : pg - 4 + s = pg - 4 + s := rfl
    obtain ⟨X1, hX1⟩ : ∃ y, pg - 4 = y := ⟨_, rfl⟩
    obtain ⟨N, hN⟩ : ∃ y, X1 + s = y := ⟨_, rfl⟩
    have hX10 : -4 ≤ X1 := by omega
    have hX11 : X1 < 4096 := by omega
    have hN0 : 0 ≤ N := by omega
    clear g5
    obtain ⟨r, hr, hr1, hr2⟩ := key N (by omega) (by unfold raw; simp only; (repeat' split) <;> first | omega | (rename_i h; exact absurd trivial h) | (rename_i h _; exact absurd trivial h) | (rename_i h _ _; exact absurd trivial h) | (rename_i h _ _ _; exact absurd trivial h))
    rw [hr]
    clear key tm td hr
    go_enter Try.func25, Try.ntmps25
    go_wp2
    go_ret
    exact ⟨rfl, rfl⟩

set_option maxRecDepth 100000 in
set_option maxHeartbeats 4000000 in
theorem rpage2 (w : World) (q : Nat) (S : St) (a s : Int) (h : RefAt w q S) (ha0 : 32768 ≤ a) (ha1 : a < 65536) (hs : a / 8192 - 4 = s) (hO : Ok S) (hmp : S.mp = 2) :
    Calls Try.prog 25 #[.pointer (some ⟨q, 0, none⟩), .int .u16 a] w fun e w' => e = .returned (.int .i64 (raw S s % S.pg)) ∧ w = w' := by
  obtain ⟨hm0, hm1⟩ := hO.mp
  obtain ⟨hg0, hg1⟩ := hO.pg
  obtain ⟨hc0, hc1⟩ := hO.c
  obtain ⟨hp0, hp1⟩ := hO.p
  obtain ⟨hn0, hn1⟩ := hO.n
  obtain ⟨hl0, hl1⟩ := hO.sel
  obtain ⟨h60, h61⟩ := hO.r6
  obtain ⟨h70, h71⟩ := hO.r7
  clear hO
  obtain ⟨pg, un, mp, mir, c, l, hh, p, bits, cnt, n, sel, lat, ctr, r0, r1, r2, r3, r4, r5, r6, r7, ld, al, ask⟩ := S
  have HB := Lib.hid h
  have hb : Blk w q 40 #[.int .i64 pg, .int .i64 un, .int .i64 mp, .int .i64 mir, .int .i64 c, .int .i64 l, .int .i64 hh, .int .i64 p, .int .i64 bits, .int .i64 cnt, .int .i64 n, .int .i64 sel, .int .i64 lat, .int .i64 ctr, .int .i64 r0, .int .i64 r1, .int .i64 r2, .int .i64 r3, .int .i64 r4, .int .i64 r5, .int .i64 r6, .int .i64 r7, .bool ld, .bool al, .bool ask] := h
  obtain ⟨d0, -, d2, -, d4, -, -, d7, -, -, d10, d11, -, -, -, -, -, -, -, -, d20, d21, -, -, -⟩ := blk25 hb
  simp only at hm0 hm1 hg0 hg1 hc0 hc1 hp0 hp1 hn0 hn1 hl0 hl1 h60 h61 h70 h71 ⊢
  clear hb h HB
  have ha00 : 0 ≤ a := by omega
  have ha2 : ¬ a < 32768 := by omega
  have tm : ∀ x y : Int, 0 ≤ x → x.tmod y = x % y := fun x y hx => Int.tmod_eq_emod_of_nonneg hx
  have td : ∀ x y : Int, 0 ≤ x → x.tdiv y = x / y := fun x y hx => Int.tdiv_eq_ediv_of_nonneg hx
  obtain ⟨t, ht⟩ : ∃ t, a / 8192 = t := ⟨_, rfl⟩
  have ht' : a.tdiv 8192 = t := by rw [td _ _ ha00]; exact ht
  rw [ht] at hs
  have ht0 : 4 ≤ t := by omega
  have ht1 : t ≤ 7 := by omega
  have hs0 : 0 ≤ s := by omega
  have hs1 : s ≤ 3 := by omega
  have hgz : ¬ pg = 0 := by omega
  have hgz' : (pg == 0) = false := by rw [beq_eq_false_iff_ne]; exact hgz
  have key : ∀ N : Int, 0 ≤ N → raw ⟨pg, un, mp, mir, c, l, hh, p, bits, cnt, n, sel, lat, ctr, r0, r1, r2, r3, r4, r5, r6, r7, ld, al, ask⟩ s = N → ∃ r, raw ⟨pg, un, mp, mir, c, l, hh, p, bits, cnt, n, sel, lat, ctr, r0, r1, r2, r3, r4, r5, r6, r7, ld, al, ask⟩ s % pg = r ∧ N % pg = r ∧ N.tmod pg = r := fun N hN hr => ⟨_, rfl, by rw [hr], by rw [hr, tm _ _ hN]⟩
  obtain ⟨M4, hM4⟩ : ∃ y, c / 4 = y := ⟨_, rfl⟩
  have hM4' : c.tdiv 4 = M4 := by rw [td _ _ hc0]; exact hM4
  obtain ⟨M, hM⟩ : ∃ y, M4 % 4 = y := ⟨_, rfl⟩
  have hM' : M4.tmod 4 = M := by rw [tm _ _ (by omega)]; exact hM
  have hM0 : 0 ≤ M := by omega
  have hM1 : M < 4 := by omega
  obtain ⟨B, hB⟩ : ∃ y, p % 16 = y := ⟨_, rfl⟩
  have hB' : p.tmod 16 = B := by rw [tm _ _ hp0]; exact hB
  have hB0 : 0 ≤ B := by omega
  have hB1 : B < 16 := by omega
  obtain ⟨Q4, hQ4⟩ : ∃ y, sel / 64 = y := ⟨_, rfl⟩
  have hQ4' : sel.tdiv 64 = Q4 := by rw [td _ _ hl0]; exact hQ4
  have hQ0 : 0 ≤ Q4 := by omega
  obtain ⟨Q, hQ⟩ : ∃ y, Q4 % 2 = y := ⟨_, rfl⟩
  have hQ' : Q4.tmod 2 = Q := by rw [tm _ _ hQ0]; exact hQ
  have hQc : Q = 0 ∨ Q = 1 := by omega
  simp only at hmp
  subst hmp
  clear hm0 hm1
  by_cases g3 : s < 2
  · have g4 : ¬ 2 ≤ s := by omega
    obtain ⟨X1, hX1⟩ : ∃ y, n * 2 = y := ⟨_, rfl⟩
    obtain ⟨N, hN⟩ : ∃ y, X1 + s = y := ⟨_, rfl⟩
    have hX10 : 0 ≤ X1 := by omega
    have hX11 : X1 < 4096 := by omega
    have hN0 : 0 ≤ N := by omega
    have hN1 : N < 4096 := by omega
    obtain ⟨r, hr, hr1, hr2⟩ := key N (by omega) (by unfold raw; simp only; (repeat' split) <;> first | omega | (rename_i h; exact absurd trivial h) | (rename_i h _; exact absurd trivial h) | (rename_i h _ _; exact absurd trivial h) | (rename_i h _ _ _; exact absurd trivial h))
    rw [hr]
    clear key tm td hr
    go_enter Try.func25, Try.ntmps25
    go_wp2
    go_ret
    exact ⟨rfl, rfl⟩
  · have g4 : 2 ≤ s := by omega
    obtain ⟨X1, hX1⟩ : ∃ y, pg - 4 = y := ⟨_, rfl⟩
    obtain ⟨N, hN⟩ : ∃ y, X1 + s = y := ⟨_, rfl⟩
    have hX10 : -4 ≤ X1 := by omega
    have hX11 : X1 < 4096 := by omega
    have hN0 : 0 ≤ N := by omega
    obtain ⟨r, hr, hr1, hr2⟩ := key N (by omega) (by unfold raw; simp only; (repeat' split) <;> first | omega | (rename_i h; exact absurd trivial h) | (rename_i h _; exact absurd trivial h) | (rename_i h _ _; exact absurd trivial h) | (rename_i h _ _ _; exact absurd trivial h))
    rw [hr]
    clear key tm td hr
    go_enter Try.func25, Try.ntmps25
    go_wp2
    go_ret
    exact ⟨rfl, rfl⟩

set_option maxRecDepth 100000 in
set_option maxHeartbeats 4000000 in
theorem rpage4 (w : World) (q : Nat) (S : St) (a s : Int) (h : RefAt w q S) (ha0 : 32768 ≤ a) (ha1 : a < 65536) (hs : a / 8192 - 4 = s) (hO : Ok S) (hmp : S.mp = 4) :
    Calls Try.prog 25 #[.pointer (some ⟨q, 0, none⟩), .int .u16 a] w fun e w' => e = .returned (.int .i64 (raw S s % S.pg)) ∧ w = w' := by
  obtain ⟨hm0, hm1⟩ := hO.mp
  obtain ⟨hg0, hg1⟩ := hO.pg
  obtain ⟨hc0, hc1⟩ := hO.c
  obtain ⟨hp0, hp1⟩ := hO.p
  obtain ⟨hn0, hn1⟩ := hO.n
  obtain ⟨hl0, hl1⟩ := hO.sel
  obtain ⟨h60, h61⟩ := hO.r6
  obtain ⟨h70, h71⟩ := hO.r7
  clear hO
  obtain ⟨pg, un, mp, mir, c, l, hh, p, bits, cnt, n, sel, lat, ctr, r0, r1, r2, r3, r4, r5, r6, r7, ld, al, ask⟩ := S
  have HB := Lib.hid h
  have hb : Blk w q 40 #[.int .i64 pg, .int .i64 un, .int .i64 mp, .int .i64 mir, .int .i64 c, .int .i64 l, .int .i64 hh, .int .i64 p, .int .i64 bits, .int .i64 cnt, .int .i64 n, .int .i64 sel, .int .i64 lat, .int .i64 ctr, .int .i64 r0, .int .i64 r1, .int .i64 r2, .int .i64 r3, .int .i64 r4, .int .i64 r5, .int .i64 r6, .int .i64 r7, .bool ld, .bool al, .bool ask] := h
  obtain ⟨d0, -, d2, -, d4, -, -, d7, -, -, d10, d11, -, -, -, -, -, -, -, -, d20, d21, -, -, -⟩ := blk25 hb
  simp only at hm0 hm1 hg0 hg1 hc0 hc1 hp0 hp1 hn0 hn1 hl0 hl1 h60 h61 h70 h71 ⊢
  clear hb h HB
  have ha00 : 0 ≤ a := by omega
  have ha2 : ¬ a < 32768 := by omega
  have tm : ∀ x y : Int, 0 ≤ x → x.tmod y = x % y := fun x y hx => Int.tmod_eq_emod_of_nonneg hx
  have td : ∀ x y : Int, 0 ≤ x → x.tdiv y = x / y := fun x y hx => Int.tdiv_eq_ediv_of_nonneg hx
  obtain ⟨t, ht⟩ : ∃ t, a / 8192 = t := ⟨_, rfl⟩
  have ht' : a.tdiv 8192 = t := by rw [td _ _ ha00]; exact ht
  rw [ht] at hs
  have ht0 : 4 ≤ t := by omega
  have ht1 : t ≤ 7 := by omega
  have hs0 : 0 ≤ s := by omega
  have hs1 : s ≤ 3 := by omega
  have hgz : ¬ pg = 0 := by omega
  have hgz' : (pg == 0) = false := by rw [beq_eq_false_iff_ne]; exact hgz
  have key : ∀ N : Int, 0 ≤ N → raw ⟨pg, un, mp, mir, c, l, hh, p, bits, cnt, n, sel, lat, ctr, r0, r1, r2, r3, r4, r5, r6, r7, ld, al, ask⟩ s = N → ∃ r, raw ⟨pg, un, mp, mir, c, l, hh, p, bits, cnt, n, sel, lat, ctr, r0, r1, r2, r3, r4, r5, r6, r7, ld, al, ask⟩ s % pg = r ∧ N % pg = r ∧ N.tmod pg = r := fun N hN hr => ⟨_, rfl, by rw [hr], by rw [hr, tm _ _ hN]⟩
  obtain ⟨M4, hM4⟩ : ∃ y, c / 4 = y := ⟨_, rfl⟩
  have hM4' : c.tdiv 4 = M4 := by rw [td _ _ hc0]; exact hM4
  obtain ⟨M, hM⟩ : ∃ y, M4 % 4 = y := ⟨_, rfl⟩
  have hM' : M4.tmod 4 = M := by rw [tm _ _ (by omega)]; exact hM
  have hM0 : 0 ≤ M := by omega
  have hM1 : M < 4 := by omega
  obtain ⟨B, hB⟩ : ∃ y, p % 16 = y := ⟨_, rfl⟩
  have hB' : p.tmod 16 = B := by rw [tm _ _ hp0]; exact hB
  have hB0 : 0 ≤ B := by omega
  have hB1 : B < 16 := by omega
  obtain ⟨Q4, hQ4⟩ : ∃ y, sel / 64 = y := ⟨_, rfl⟩
  have hQ4' : sel.tdiv 64 = Q4 := by rw [td _ _ hl0]; exact hQ4
  have hQ0 : 0 ≤ Q4 := by omega
  obtain ⟨Q, hQ⟩ : ∃ y, Q4 % 2 = y := ⟨_, rfl⟩
  have hQ' : Q4.tmod 2 = Q := by rw [tm _ _ hQ0]; exact hQ
  have hQc : Q = 0 ∨ Q = 1 := by omega
  simp only at hmp
  subst hmp
  clear hm0 hm1
  obtain rfl | rfl | rfl | rfl : s = 3 ∨ s = 1 ∨ s = 0 ∨ s = 2 := by omega
  · obtain rfl : t = 7 := by omega
    obtain ⟨N, hN⟩ : ∃ y, pg - 1 = y := ⟨_, rfl⟩
    have hN0 : 0 ≤ N := by omega
    have hN1 : N < 4096 := by omega
    obtain ⟨r, hr, hr1, hr2⟩ := key N (by omega) (by have := raw4_3 ⟨pg, un, 4, mir, c, l, hh, p, bits, cnt, n, sel, lat, ctr, r0, r1, r2, r3, r4, r5, r6, r7, ld, al, ask⟩ rfl; simp only at this; omega)
    rw [hr]
    clear key tm td hr
    go_enter Try.func25, Try.ntmps25
    go_wp2
    go_ret
    exact ⟨rfl, rfl⟩
  · obtain rfl : t = 5 := by omega
    obtain ⟨r, hr, hr1, hr2⟩ := key r7 (by omega) (by have := raw4_1 ⟨pg, un, 4, mir, c, l, hh, p, bits, cnt, n, sel, lat, ctr, r0, r1, r2, r3, r4, r5, r6, r7, ld, al, ask⟩ rfl; simp only at this; omega)
    rw [hr]
    clear key tm td hr
    go_enter Try.func25, Try.ntmps25
    go_wp2
    go_ret
    exact ⟨rfl, rfl⟩
  · obtain rfl : t = 4 := by omega
    rcases hQc with rfl | rfl
    · skip
      obtain ⟨r, hr, hr1, hr2⟩ := key r6 (by omega) (by have := raw4_00 ⟨pg, un, 4, mir, c, l, hh, p, bits, cnt, n, sel, lat, ctr, r0, r1, r2, r3, r4, r5, r6, r7, ld, al, ask⟩ rfl (by simp only; omega); simp only at this; omega)
      rw [hr]
      clear key tm td hr
      go_enter Try.func25, Try.ntmps25
      go_wp2
      go_ret
      exact ⟨rfl, rfl⟩
    · skip
      obtain ⟨N, hN⟩ : ∃ y, pg - 2 = y := ⟨_, rfl⟩
      have hN0 : 0 ≤ N := by omega
      have hN1 : N < 4096 := by omega
      obtain ⟨r, hr, hr1, hr2⟩ := key N (by omega) (by have := raw4_01 ⟨pg, un, 4, mir, c, l, hh, p, bits, cnt, n, sel, lat, ctr, r0, r1, r2, r3, r4, r5, r6, r7, ld, al, ask⟩ rfl (by simp only; omega); simp only at this; omega)
      rw [hr]
      clear key tm td hr
      go_enter Try.func25, Try.ntmps25
      go_wp2
      go_ret
      exact ⟨rfl, rfl⟩
  · obtain rfl : t = 6 := by omega
    rcases hQc with rfl | rfl
    · skip
      obtain ⟨N, hN⟩ : ∃ y, pg - 2 = y := ⟨_, rfl⟩
      have hN0 : 0 ≤ N := by omega
      have hN1 : N < 4096 := by omega
      obtain ⟨r, hr, hr1, hr2⟩ := key N (by omega) (by have := raw4_20 ⟨pg, un, 4, mir, c, l, hh, p, bits, cnt, n, sel, lat, ctr, r0, r1, r2, r3, r4, r5, r6, r7, ld, al, ask⟩ rfl (by simp only; omega); simp only at this; omega)
      rw [hr]
      clear key tm td hr
      go_enter Try.func25, Try.ntmps25
      go_wp2
      go_ret
      exact ⟨rfl, rfl⟩
    · skip
      obtain ⟨r, hr, hr1, hr2⟩ := key r6 (by omega) (by have := raw4_21 ⟨pg, un, 4, mir, c, l, hh, p, bits, cnt, n, sel, lat, ctr, r0, r1, r2, r3, r4, r5, r6, r7, ld, al, ask⟩ rfl (by simp only; omega); simp only at this; omega)
      rw [hr]
      clear key tm td hr
      go_enter Try.func25, Try.ntmps25
      go_wp2
      go_ret
      exact ⟨rfl, rfl⟩

set_option maxRecDepth 100000 in
set_option maxHeartbeats 4000000 in
theorem rpage_any (w : World) (q : Nat) (S : St) (a : Int) (h : RefAt w q S) (ha0 : 0 ≤ a) (ha1 : a < 65536) (hO : Ok S) :
    Calls Try.prog 25 #[.pointer (some ⟨q, 0, none⟩), .int .u16 a] w fun e w' => e = .returned (.int .i64 (pageOf S a)) ∧ w = w' := by
  unfold pageOf
  by_cases h1 : a < 32768
  · rw [if_pos h1]
    clear hO h
    go_enter Try.func25, Try.ntmps25
    go_wp2
    go_ret
    exact ⟨rfl, rfl⟩
  rw [if_neg h1]
  have hm := hO.mp
  obtain hm | hm | hm | hm | hm : S.mp = 0 ∨ S.mp = 1 ∨ S.mp = 2 ∨ S.mp = 3 ∨ S.mp = 4 := by omega
  · exact rpage0 w q S a _ h (by omega) ha1 rfl hO hm
  · exact rpage1 w q S a _ h (by omega) ha1 rfl hO hm
  · exact rpage2 w q S a _ h (by omega) ha1 rfl hO hm
  · exact rpage3 w q S a _ h (by omega) ha1 rfl hO hm
  · exact rpage4 w q S a _ h (by omega) ha1 rfl hO hm

set_option maxRecDepth 100000 in
set_option maxHeartbeats 4000000 in
theorem rprg_any (w : World) (q : Nat) (S : St) (a : Int) (h : RefAt w q S) (ha0 : 0 ≤ a) (ha1 : a < 65536) (hO : Ok S) :
    Calls Try.prog 26 #[.pointer (some ⟨q, 0, none⟩), .int .u16 a] w fun e w' => e = .returned (.int .i64 (prgOf S a)) ∧ w = w' := by
  have HC := Lib.hid (rpage_any w q S a h ha0 ha1 hO)
  have hb : 32768 ≤ a → 0 ≤ pageOf S a ∧ pageOf S a < 32 := by
    intro hx
    unfold pageOf
    rw [if_neg (by omega)]
    have hg := hO.pg
    exact ⟨Int.emod_nonneg _ (by omega), by have := Int.emod_lt_of_pos (raw S (a / 8192 - 4)) (pg_pos S hO); omega⟩
  clear h hO
  unfold prgOf
  generalize pageOf S a = pv at *
  by_cases h1 : a < 32768
  · rw [if_pos h1]
    clear hb
    go_enter Try.func26, Try.ntmps26
    go_wp2
    go_ret
    exact ⟨rfl, rfl⟩
  rw [if_neg h1]
  obtain ⟨b0, b1⟩ := hb (by omega)
  obtain ⟨z, hz⟩ : ∃ z, a % 8192 = z := ⟨_, rfl⟩
  have hz' : a.tmod 8192 = z := by rw [Int.tmod_eq_emod_of_nonneg ha0]; exact hz
  have hz0 : 0 ≤ z := by omega
  have hz1 : z < 8192 := by omega
  obtain ⟨Y, hY⟩ : ∃ y, pv * 8192 = y := ⟨_, rfl⟩
  obtain ⟨N, hN⟩ : ∃ y, Y + z = y := ⟨_, rfl⟩
  have hY0 : 0 ≤ Y := by omega
  have hY1 : Y < 1000000 := by omega
  rw [hz, hY, hN]
  clear hb
  go_enter Try.func26, Try.ntmps26
  go_wp2_with fail
  (with_reducible refine HC.out.mono ?_)
  rintro e w1 ⟨rfl, rfl⟩
  go_wp2
  go_ret
  exact ⟨rfl, rfl⟩

end Nm
end Go.Proofs.Ytgakdlbdbiacgaa
