/-
  Contract of the document's CHR. Condition: the state is one that there is.
-/
import Derived.Test.YtgakdlbdbiacgaaNmObj
namespace Go.Proofs.Ytgakdlbdbiacgaa
open Go.RowKit
namespace Nm

set_option maxRecDepth 100000 in
set_option maxHeartbeats 4000000 in
theorem rchr0 (w : World) (q : Nat) (S : St) (a : Int) (h : RefAt w q S) (ha0 : 0 ≤ a) (ha1 : a < 65536) (hO : Ok S) (hmp : S.mp = 0) :
    Calls Try.prog 27 #[.pointer (some ⟨q, 0, none⟩), .int .u16 a] w fun e w' => e = .returned (.int .i64 (chrOf S a)) ∧ w = w' := by
  obtain ⟨hg0, hg1⟩ := hO.un
  obtain ⟨hc0, hc1⟩ := hO.c
  obtain ⟨hk0, hk1⟩ := hO.l
  obtain ⟨hh0, hh1⟩ := hO.h
  obtain ⟨hn0, hn1⟩ := hO.n
  obtain ⟨hl0, hl1⟩ := hO.sel
  obtain ⟨hr00, hr01⟩ := hO.r0
  obtain ⟨hr10, hr11⟩ := hO.r1
  obtain ⟨hr20, hr21⟩ := hO.r2
  obtain ⟨hr30, hr31⟩ := hO.r3
  obtain ⟨hr40, hr41⟩ := hO.r4
  obtain ⟨hr50, hr51⟩ := hO.r5
  obtain ⟨hr60, hr61⟩ := hO.r6
  obtain ⟨hr70, hr71⟩ := hO.r7
  clear hO
  obtain ⟨pg, un, mp, mir, c, l, hh, p, bits, cnt, n, sel, lat, ctr, r0, r1, r2, r3, r4, r5, r6, r7, ld, al, ask⟩ := S
  have HB := Lib.hid h
  have hb : Blk w q 40 #[.int .i64 pg, .int .i64 un, .int .i64 mp, .int .i64 mir, .int .i64 c, .int .i64 l, .int .i64 hh, .int .i64 p, .int .i64 bits, .int .i64 cnt, .int .i64 n, .int .i64 sel, .int .i64 lat, .int .i64 ctr, .int .i64 r0, .int .i64 r1, .int .i64 r2, .int .i64 r3, .int .i64 r4, .int .i64 r5, .int .i64 r6, .int .i64 r7, .bool ld, .bool al, .bool ask] := h
  obtain ⟨-, d1, d2, -, d4, d5, d6, -, -, -, d10, d11, -, -, d14, d15, d16, d17, d18, d19, d20, d21, -, -, -⟩ := blk25 hb
  simp only at hg0 hg1 hc0 hc1 hk0 hk1 hh0 hh1 hn0 hn1 hl0 hl1 hr00 hr01 hr10 hr11 hr20 hr21 hr30 hr31 hr40 hr41 hr50 hr51 hr60 hr61 hr70 hr71 hmp ⊢
  subst hmp
  clear hb h HB
  have tm : ∀ x y : Int, 0 ≤ x → x.tmod y = x % y := fun x y hx => Int.tmod_eq_emod_of_nonneg hx
  have td : ∀ x y : Int, 0 ≤ x → x.tdiv y = x / y := fun x y hx => Int.tdiv_eq_ediv_of_nonneg hx
  have hgz : ¬ un = 0 := by omega
  have hgz' : (un == 0) = false := by rw [beq_eq_false_iff_ne]; exact hgz
  obtain ⟨t, ht⟩ : ∃ t, a / 1024 = t := ⟨_, rfl⟩
  have ht' : a.tdiv 1024 = t := by rw [td _ _ ha0]; exact ht
  have ht0 : 0 ≤ t := by omega
  obtain ⟨u, hu⟩ : ∃ u, t % 8 = u := ⟨_, rfl⟩
  have hu' : t.tmod 8 = u := by rw [tm _ _ ht0]; exact hu
  have hu0 : 0 ≤ u := by omega
  have hu1 : u < 8 := by omega
  obtain ⟨z, hz⟩ : ∃ z, a % 1024 = z := ⟨_, rfl⟩
  have hz' : a.tmod 1024 = z := by rw [tm _ _ ha0]; exact hz
  have hz0 : 0 ≤ z := by omega
  have hz1 : z < 1024 := by omega
  have key : ∀ N : Int, 0 ≤ N → unit ⟨pg, un, 0, mir, c, l, hh, p, bits, cnt, n, sel, lat, ctr, r0, r1, r2, r3, r4, r5, r6, r7, ld, al, ask⟩ u = N → ∃ r Y, chrOf ⟨pg, un, 0, mir, c, l, hh, p, bits, cnt, n, sel, lat, ctr, r0, r1, r2, r3, r4, r5, r6, r7, ld, al, ask⟩ a = Y + z ∧ r * 1024 = Y ∧ N % un = r ∧ N.tmod un = r ∧ 0 ≤ r ∧ r < 128 := fun N hN hr =>
    ⟨N % un, _, by unfold chrOf; simp only [ht, hu, hz]; rw [hr], rfl, rfl, tm _ _ hN, Int.emod_nonneg _ hgz, by have := Int.emod_lt_of_pos N (show 0 < un by omega); omega⟩
  obtain ⟨r, Y, hr, hY, hr1, hr2, hr3, hr4⟩ := key u (by omega) (by unfold unit; simp only; (repeat' split) <;> first | omega | (rename_i h; exact absurd trivial h) | (rename_i h _; exact absurd trivial h) | (rename_i h _ _; exact absurd trivial h))
  have hY0 : 0 ≤ Y := by omega
  have hY1 : Y < 200000 := by omega
  rw [hr]
  clear key tm td hr
  go_enter Try.func27, Try.ntmps27
  go_wp2
  go_ret
  exact ⟨rfl, rfl⟩

set_option maxRecDepth 100000 in
set_option maxHeartbeats 4000000 in
theorem rchr2 (w : World) (q : Nat) (S : St) (a : Int) (h : RefAt w q S) (ha0 : 0 ≤ a) (ha1 : a < 65536) (hO : Ok S) (hmp : S.mp = 2) :
    Calls Try.prog 27 #[.pointer (some ⟨q, 0, none⟩), .int .u16 a] w fun e w' => e = .returned (.int .i64 (chrOf S a)) ∧ w = w' := by
  obtain ⟨hg0, hg1⟩ := hO.un
  obtain ⟨hc0, hc1⟩ := hO.c
  obtain ⟨hk0, hk1⟩ := hO.l
  obtain ⟨hh0, hh1⟩ := hO.h
  obtain ⟨hn0, hn1⟩ := hO.n
  obtain ⟨hl0, hl1⟩ := hO.sel
  obtain ⟨hr00, hr01⟩ := hO.r0
  obtain ⟨hr10, hr11⟩ := hO.r1
  obtain ⟨hr20, hr21⟩ := hO.r2
  obtain ⟨hr30, hr31⟩ := hO.r3
  obtain ⟨hr40, hr41⟩ := hO.r4
  obtain ⟨hr50, hr51⟩ := hO.r5
  obtain ⟨hr60, hr61⟩ := hO.r6
  obtain ⟨hr70, hr71⟩ := hO.r7
  clear hO
  obtain ⟨pg, un, mp, mir, c, l, hh, p, bits, cnt, n, sel, lat, ctr, r0, r1, r2, r3, r4, r5, r6, r7, ld, al, ask⟩ := S
  have HB := Lib.hid h
  have hb : Blk w q 40 #[.int .i64 pg, .int .i64 un, .int .i64 mp, .int .i64 mir, .int .i64 c, .int .i64 l, .int .i64 hh, .int .i64 p, .int .i64 bits, .int .i64 cnt, .int .i64 n, .int .i64 sel, .int .i64 lat, .int .i64 ctr, .int .i64 r0, .int .i64 r1, .int .i64 r2, .int .i64 r3, .int .i64 r4, .int .i64 r5, .int .i64 r6, .int .i64 r7, .bool ld, .bool al, .bool ask] := h
  obtain ⟨-, d1, d2, -, d4, d5, d6, -, -, -, d10, d11, -, -, d14, d15, d16, d17, d18, d19, d20, d21, -, -, -⟩ := blk25 hb
  simp only at hg0 hg1 hc0 hc1 hk0 hk1 hh0 hh1 hn0 hn1 hl0 hl1 hr00 hr01 hr10 hr11 hr20 hr21 hr30 hr31 hr40 hr41 hr50 hr51 hr60 hr61 hr70 hr71 hmp ⊢
  subst hmp
  clear hb h HB
  have tm : ∀ x y : Int, 0 ≤ x → x.tmod y = x % y := fun x y hx => Int.tmod_eq_emod_of_nonneg hx
  have td : ∀ x y : Int, 0 ≤ x → x.tdiv y = x / y := fun x y hx => Int.tdiv_eq_ediv_of_nonneg hx
  have hgz : ¬ un = 0 := by omega
  have hgz' : (un == 0) = false := by rw [beq_eq_false_iff_ne]; exact hgz
  obtain ⟨t, ht⟩ : ∃ t, a / 1024 = t := ⟨_, rfl⟩
  have ht' : a.tdiv 1024 = t := by rw [td _ _ ha0]; exact ht
  have ht0 : 0 ≤ t := by omega
  obtain ⟨u, hu⟩ : ∃ u, t % 8 = u := ⟨_, rfl⟩
  have hu' : t.tmod 8 = u := by rw [tm _ _ ht0]; exact hu
  have hu0 : 0 ≤ u := by omega
  have hu1 : u < 8 := by omega
  obtain ⟨z, hz⟩ : ∃ z, a % 1024 = z := ⟨_, rfl⟩
  have hz' : a.tmod 1024 = z := by rw [tm _ _ ha0]; exact hz
  have hz0 : 0 ≤ z := by omega
  have hz1 : z < 1024 := by omega
  have key : ∀ N : Int, 0 ≤ N → unit ⟨pg, un, 2, mir, c, l, hh, p, bits, cnt, n, sel, lat, ctr, r0, r1, r2, r3, r4, r5, r6, r7, ld, al, ask⟩ u = N → ∃ r Y, chrOf ⟨pg, un, 2, mir, c, l, hh, p, bits, cnt, n, sel, lat, ctr, r0, r1, r2, r3, r4, r5, r6, r7, ld, al, ask⟩ a = Y + z ∧ r * 1024 = Y ∧ N % un = r ∧ N.tmod un = r ∧ 0 ≤ r ∧ r < 128 := fun N hN hr =>
    ⟨N % un, _, by unfold chrOf; simp only [ht, hu, hz]; rw [hr], rfl, rfl, tm _ _ hN, Int.emod_nonneg _ hgz, by have := Int.emod_lt_of_pos N (show 0 < un by omega); omega⟩
  obtain ⟨r, Y, hr, hY, hr1, hr2, hr3, hr4⟩ := key u (by omega) (by unfold unit; simp only; (repeat' split) <;> first | omega | (rename_i h; exact absurd trivial h) | (rename_i h _; exact absurd trivial h) | (rename_i h _ _; exact absurd trivial h))
  have hY0 : 0 ≤ Y := by omega
  have hY1 : Y < 200000 := by omega
  rw [hr]
  clear key tm td hr
  go_enter Try.func27, Try.ntmps27
  go_wp2
  go_ret
  exact ⟨rfl, rfl⟩

set_option maxRecDepth 100000 in
set_option maxHeartbeats 4000000 in
theorem rchr3 (w : World) (q : Nat) (S : St) (a : Int) (h : RefAt w q S) (ha0 : 0 ≤ a) (ha1 : a < 65536) (hO : Ok S) (hmp : S.mp = 3) :
    Calls Try.prog 27 #[.pointer (some ⟨q, 0, none⟩), .int .u16 a] w fun e w' => e = .returned (.int .i64 (chrOf S a)) ∧ w = w' := by
  obtain ⟨hg0, hg1⟩ := hO.un
  obtain ⟨hc0, hc1⟩ := hO.c
  obtain ⟨hk0, hk1⟩ := hO.l
  obtain ⟨hh0, hh1⟩ := hO.h
  obtain ⟨hn0, hn1⟩ := hO.n
  obtain ⟨hl0, hl1⟩ := hO.sel
  obtain ⟨hr00, hr01⟩ := hO.r0
  obtain ⟨hr10, hr11⟩ := hO.r1
  obtain ⟨hr20, hr21⟩ := hO.r2
  obtain ⟨hr30, hr31⟩ := hO.r3
  obtain ⟨hr40, hr41⟩ := hO.r4
  obtain ⟨hr50, hr51⟩ := hO.r5
  obtain ⟨hr60, hr61⟩ := hO.r6
  obtain ⟨hr70, hr71⟩ := hO.r7
  clear hO
  obtain ⟨pg, un, mp, mir, c, l, hh, p, bits, cnt, n, sel, lat, ctr, r0, r1, r2, r3, r4, r5, r6, r7, ld, al, ask⟩ := S
  have HB := Lib.hid h
  have hb : Blk w q 40 #[.int .i64 pg, .int .i64 un, .int .i64 mp, .int .i64 mir, .int .i64 c, .int .i64 l, .int .i64 hh, .int .i64 p, .int .i64 bits, .int .i64 cnt, .int .i64 n, .int .i64 sel, .int .i64 lat, .int .i64 ctr, .int .i64 r0, .int .i64 r1, .int .i64 r2, .int .i64 r3, .int .i64 r4, .int .i64 r5, .int .i64 r6, .int .i64 r7, .bool ld, .bool al, .bool ask] := h
  obtain ⟨-, d1, d2, -, d4, d5, d6, -, -, -, d10, d11, -, -, d14, d15, d16, d17, d18, d19, d20, d21, -, -, -⟩ := blk25 hb
  simp only at hg0 hg1 hc0 hc1 hk0 hk1 hh0 hh1 hn0 hn1 hl0 hl1 hr00 hr01 hr10 hr11 hr20 hr21 hr30 hr31 hr40 hr41 hr50 hr51 hr60 hr61 hr70 hr71 hmp ⊢
  subst hmp
  clear hb h HB
  have tm : ∀ x y : Int, 0 ≤ x → x.tmod y = x % y := fun x y hx => Int.tmod_eq_emod_of_nonneg hx
  have td : ∀ x y : Int, 0 ≤ x → x.tdiv y = x / y := fun x y hx => Int.tdiv_eq_ediv_of_nonneg hx
  have hgz : ¬ un = 0 := by omega
  have hgz' : (un == 0) = false := by rw [beq_eq_false_iff_ne]; exact hgz
  obtain ⟨t, ht⟩ : ∃ t, a / 1024 = t := ⟨_, rfl⟩
  have ht' : a.tdiv 1024 = t := by rw [td _ _ ha0]; exact ht
  have ht0 : 0 ≤ t := by omega
  obtain ⟨u, hu⟩ : ∃ u, t % 8 = u := ⟨_, rfl⟩
  have hu' : t.tmod 8 = u := by rw [tm _ _ ht0]; exact hu
  have hu0 : 0 ≤ u := by omega
  have hu1 : u < 8 := by omega
  obtain ⟨z, hz⟩ : ∃ z, a % 1024 = z := ⟨_, rfl⟩
  have hz' : a.tmod 1024 = z := by rw [tm _ _ ha0]; exact hz
  have hz0 : 0 ≤ z := by omega
  have hz1 : z < 1024 := by omega
  have key : ∀ N : Int, 0 ≤ N → unit ⟨pg, un, 3, mir, c, l, hh, p, bits, cnt, n, sel, lat, ctr, r0, r1, r2, r3, r4, r5, r6, r7, ld, al, ask⟩ u = N → ∃ r Y, chrOf ⟨pg, un, 3, mir, c, l, hh, p, bits, cnt, n, sel, lat, ctr, r0, r1, r2, r3, r4, r5, r6, r7, ld, al, ask⟩ a = Y + z ∧ r * 1024 = Y ∧ N % un = r ∧ N.tmod un = r ∧ 0 ≤ r ∧ r < 128 := fun N hN hr =>
    ⟨N % un, _, by unfold chrOf; simp only [ht, hu, hz]; rw [hr], rfl, rfl, tm _ _ hN, Int.emod_nonneg _ hgz, by have := Int.emod_lt_of_pos N (show 0 < un by omega); omega⟩
  obtain ⟨X1, hX1⟩ : ∃ y, n * 8 = y := ⟨_, rfl⟩
  obtain ⟨N, hN⟩ : ∃ y, X1 + u = y := ⟨_, rfl⟩
  have hX10 : 0 ≤ X1 := by omega
  have hX11 : X1 < 4096 := by omega
  have hN0 : 0 ≤ N := by omega
  have hN1 : N < 4096 := by omega
  obtain ⟨r, Y, hr, hY, hr1, hr2, hr3, hr4⟩ := key N (by omega) (by unfold unit; simp only; (repeat' split) <;> first | omega | (rename_i h; exact absurd trivial h) | (rename_i h _; exact absurd trivial h) | (rename_i h _ _; exact absurd trivial h))
  have hY0 : 0 ≤ Y := by omega
  have hY1 : Y < 200000 := by omega
  rw [hr]
  clear key tm td hr
  go_enter Try.func27, Try.ntmps27
  go_wp2
  go_ret
  exact ⟨rfl, rfl⟩

set_option maxRecDepth 100000 in
set_option maxHeartbeats 4000000 in
theorem rchr1 (w : World) (q : Nat) (S : St) (a : Int) (h : RefAt w q S) (ha0 : 0 ≤ a) (ha1 : a < 65536) (hO : Ok S) (hmp : S.mp = 1) :
    Calls Try.prog 27 #[.pointer (some ⟨q, 0, none⟩), .int .u16 a] w fun e w' => e = .returned (.int .i64 (chrOf S a)) ∧ w = w' := by
  obtain ⟨hg0, hg1⟩ := hO.un
  obtain ⟨hc0, hc1⟩ := hO.c
  obtain ⟨hk0, hk1⟩ := hO.l
  obtain ⟨hh0, hh1⟩ := hO.h
  obtain ⟨hn0, hn1⟩ := hO.n
  obtain ⟨hl0, hl1⟩ := hO.sel
  obtain ⟨hr00, hr01⟩ := hO.r0
  obtain ⟨hr10, hr11⟩ := hO.r1
  obtain ⟨hr20, hr21⟩ := hO.r2
  obtain ⟨hr30, hr31⟩ := hO.r3
  obtain ⟨hr40, hr41⟩ := hO.r4
  obtain ⟨hr50, hr51⟩ := hO.r5
  obtain ⟨hr60, hr61⟩ := hO.r6
  obtain ⟨hr70, hr71⟩ := hO.r7
  clear hO
  obtain ⟨pg, un, mp, mir, c, l, hh, p, bits, cnt, n, sel, lat, ctr, r0, r1, r2, r3, r4, r5, r6, r7, ld, al, ask⟩ := S
  have HB := Lib.hid h
  have hb : Blk w q 40 #[.int .i64 pg, .int .i64 un, .int .i64 mp, .int .i64 mir, .int .i64 c, .int .i64 l, .int .i64 hh, .int .i64 p, .int .i64 bits, .int .i64 cnt, .int .i64 n, .int .i64 sel, .int .i64 lat, .int .i64 ctr, .int .i64 r0, .int .i64 r1, .int .i64 r2, .int .i64 r3, .int .i64 r4, .int .i64 r5, .int .i64 r6, .int .i64 r7, .bool ld, .bool al, .bool ask] := h
  obtain ⟨-, d1, d2, -, d4, d5, d6, -, -, -, d10, d11, -, -, d14, d15, d16, d17, d18, d19, d20, d21, -, -, -⟩ := blk25 hb
  simp only at hg0 hg1 hc0 hc1 hk0 hk1 hh0 hh1 hn0 hn1 hl0 hl1 hr00 hr01 hr10 hr11 hr20 hr21 hr30 hr31 hr40 hr41 hr50 hr51 hr60 hr61 hr70 hr71 hmp ⊢
  subst hmp
  clear hb h HB
  have tm : ∀ x y : Int, 0 ≤ x → x.tmod y = x % y := fun x y hx => Int.tmod_eq_emod_of_nonneg hx
  have td : ∀ x y : Int, 0 ≤ x → x.tdiv y = x / y := fun x y hx => Int.tdiv_eq_ediv_of_nonneg hx
  have hgz : ¬ un = 0 := by omega
  have hgz' : (un == 0) = false := by rw [beq_eq_false_iff_ne]; exact hgz
  obtain ⟨t, ht⟩ : ∃ t, a / 1024 = t := ⟨_, rfl⟩
  have ht' : a.tdiv 1024 = t := by rw [td _ _ ha0]; exact ht
  have ht0 : 0 ≤ t := by omega
  obtain ⟨u, hu⟩ : ∃ u, t % 8 = u := ⟨_, rfl⟩
  have hu' : t.tmod 8 = u := by rw [tm _ _ ht0]; exact hu
  have hu0 : 0 ≤ u := by omega
  have hu1 : u < 8 := by omega
  obtain ⟨z, hz⟩ : ∃ z, a % 1024 = z := ⟨_, rfl⟩
  have hz' : a.tmod 1024 = z := by rw [tm _ _ ha0]; exact hz
  have hz0 : 0 ≤ z := by omega
  have hz1 : z < 1024 := by omega
  have key : ∀ N : Int, 0 ≤ N → unit ⟨pg, un, 1, mir, c, l, hh, p, bits, cnt, n, sel, lat, ctr, r0, r1, r2, r3, r4, r5, r6, r7, ld, al, ask⟩ u = N → ∃ r Y, chrOf ⟨pg, un, 1, mir, c, l, hh, p, bits, cnt, n, sel, lat, ctr, r0, r1, r2, r3, r4, r5, r6, r7, ld, al, ask⟩ a = Y + z ∧ r * 1024 = Y ∧ N % un = r ∧ N.tmod un = r ∧ 0 ≤ r ∧ r < 128 := fun N hN hr =>
    ⟨N % un, _, by unfold chrOf; simp only [ht, hu, hz]; rw [hr], rfl, rfl, tm _ _ hN, Int.emod_nonneg _ hgz, by have := Int.emod_lt_of_pos N (show 0 < un by omega); omega⟩
  obtain ⟨M4, hM4⟩ : ∃ y, c / 16 = y := ⟨_, rfl⟩
  have hM4' : c.tdiv 16 = M4 := by rw [td _ _ hc0]; exact hM4
  have hM40 : 0 ≤ M4 := by omega
  obtain ⟨M, hM⟩ : ∃ y, M4 % 2 = y := ⟨_, rfl⟩
  have hM' : M4.tmod 2 = M := by rw [tm _ _ hM40]; exact hM
  by_cases g1 : M = 0
  · subst g1
    obtain ⟨H, hH⟩ : ∃ y, l / 2 = y := ⟨_, rfl⟩
    have hH' : l.tdiv 2 = H := by rw [td _ _ (by omega)]; exact hH
    have hH0 : 0 ≤ H := by omega
    have hH1 : H < 128 := by omega
    obtain ⟨X1, hX1⟩ : ∃ y, H * 8 = y := ⟨_, rfl⟩
    obtain ⟨N, hN⟩ : ∃ y, X1 + u = y := ⟨_, rfl⟩
    have hX10 : 0 ≤ X1 := by omega
    have hX11 : X1 < 4096 := by omega
    have hN0 : 0 ≤ N := by omega
    have hN1 : N < 4096 := by omega
    obtain ⟨r, Y, hr, hY, hr1, hr2, hr3, hr4⟩ := key N (by omega) (by unfold unit; simp only; (repeat' split) <;> first | omega | (rename_i h; exact absurd trivial h) | (rename_i h _; exact absurd trivial h) | (rename_i h _ _; exact absurd trivial h))
    have hY0 : 0 ≤ Y := by omega
    have hY1 : Y < 200000 := by omega
    rw [hr]
    clear key tm td hr
    go_enter Try.func27, Try.ntmps27
    go_wp2
    go_ret
    exact ⟨rfl, rfl⟩
  · obtain rfl : M = 1 := by omega
    by_cases g2 : u < 4
    · skip
      obtain ⟨X1, hX1⟩ : ∃ y, l * 4 = y := ⟨_, rfl⟩
      obtain ⟨N, hN⟩ : ∃ y, X1 + u = y := ⟨_, rfl⟩
      have hX10 : 0 ≤ X1 := by omega
      have hX11 : X1 < 4096 := by omega
      have hN0 : 0 ≤ N := by omega
      have hN1 : N < 4096 := by omega
      obtain ⟨r, Y, hr, hY, hr1, hr2, hr3, hr4⟩ := key N (by omega) (by unfold unit; simp only; (repeat' split) <;> first | omega | (rename_i h; exact absurd trivial h) | (rename_i h _; exact absurd trivial h) | (rename_i h _ _; exact absurd trivial h))
      have hY0 : 0 ≤ Y := by omega
      have hY1 : Y < 200000 := by omega
      rw [hr]
      clear key tm td hr
      go_enter Try.func27, Try.ntmps27
      go_wp2
      go_ret
      exact ⟨rfl, rfl⟩
    · skip
      obtain ⟨X1, hX1⟩ : ∃ y, hh * 4 = y := ⟨_, rfl⟩
      obtain ⟨X2, hX2⟩ : ∃ y, X1 + u = y := ⟨_, rfl⟩
      obtain ⟨N, hN⟩ : ∃ y, X2 - 4 = y := ⟨_, rfl⟩
      have hX10 : 0 ≤ X1 := by omega
      have hX11 : X1 < 4096 := by omega
      have hX20 : 0 ≤ X2 := by omega
      have hX21 : X2 < 4096 := by omega
      have hN0 : 0 ≤ N := by omega
      have hN1 : N < 4096 := by omega
      obtain ⟨r, Y, hr, hY, hr1, hr2, hr3, hr4⟩ := key N (by omega) (by unfold unit; simp only; (repeat' split) <;> first | omega | (rename_i h; exact absurd trivial h) | (rename_i h _; exact absurd trivial h) | (rename_i h _ _; exact absurd trivial h))
      have hY0 : 0 ≤ Y := by omega
      have hY1 : Y < 200000 := by omega
      rw [hr]
      clear key tm td hr
      go_enter Try.func27, Try.ntmps27
      go_wp2
      go_ret
      exact ⟨rfl, rfl⟩

set_option maxRecDepth 100000 in
set_option maxHeartbeats 4000000 in
theorem rchr4 (w : World) (q : Nat) (S : St) (a : Int) (h : RefAt w q S) (ha0 : 0 ≤ a) (ha1 : a < 65536) (hO : Ok S) (hmp : S.mp = 4) :
    Calls Try.prog 27 #[.pointer (some ⟨q, 0, none⟩), .int .u16 a] w fun e w' => e = .returned (.int .i64 (chrOf S a)) ∧ w = w' := by
  obtain ⟨hg0, hg1⟩ := hO.un
  obtain ⟨hc0, hc1⟩ := hO.c
  obtain ⟨hk0, hk1⟩ := hO.l
  obtain ⟨hh0, hh1⟩ := hO.h
  obtain ⟨hn0, hn1⟩ := hO.n
  obtain ⟨hl0, hl1⟩ := hO.sel
  obtain ⟨hr00, hr01⟩ := hO.r0
  obtain ⟨hr10, hr11⟩ := hO.r1
  obtain ⟨hr20, hr21⟩ := hO.r2
  obtain ⟨hr30, hr31⟩ := hO.r3
  obtain ⟨hr40, hr41⟩ := hO.r4
  obtain ⟨hr50, hr51⟩ := hO.r5
  obtain ⟨hr60, hr61⟩ := hO.r6
  obtain ⟨hr70, hr71⟩ := hO.r7
  clear hO
  obtain ⟨pg, un, mp, mir, c, l, hh, p, bits, cnt, n, sel, lat, ctr, r0, r1, r2, r3, r4, r5, r6, r7, ld, al, ask⟩ := S
  have HB := Lib.hid h
  have hb : Blk w q 40 #[.int .i64 pg, .int .i64 un, .int .i64 mp, .int .i64 mir, .int .i64 c, .int .i64 l, .int .i64 hh, .int .i64 p, .int .i64 bits, .int .i64 cnt, .int .i64 n, .int .i64 sel, .int .i64 lat, .int .i64 ctr, .int .i64 r0, .int .i64 r1, .int .i64 r2, .int .i64 r3, .int .i64 r4, .int .i64 r5, .int .i64 r6, .int .i64 r7, .bool ld, .bool al, .bool ask] := h
  obtain ⟨-, d1, d2, -, d4, d5, d6, -, -, -, d10, d11, -, -, d14, d15, d16, d17, d18, d19, d20, d21, -, -, -⟩ := blk25 hb
  simp only at hg0 hg1 hc0 hc1 hk0 hk1 hh0 hh1 hn0 hn1 hl0 hl1 hr00 hr01 hr10 hr11 hr20 hr21 hr30 hr31 hr40 hr41 hr50 hr51 hr60 hr61 hr70 hr71 hmp ⊢
  subst hmp
  clear hb h HB
  have tm : ∀ x y : Int, 0 ≤ x → x.tmod y = x % y := fun x y hx => Int.tmod_eq_emod_of_nonneg hx
  have td : ∀ x y : Int, 0 ≤ x → x.tdiv y = x / y := fun x y hx => Int.tdiv_eq_ediv_of_nonneg hx
  have hgz : ¬ un = 0 := by omega
  have hgz' : (un == 0) = false := by rw [beq_eq_false_iff_ne]; exact hgz
  obtain ⟨t, ht⟩ : ∃ t, a / 1024 = t := ⟨_, rfl⟩
  have ht' : a.tdiv 1024 = t := by rw [td _ _ ha0]; exact ht
  have ht0 : 0 ≤ t := by omega
  obtain ⟨u, hu⟩ : ∃ u, t % 8 = u := ⟨_, rfl⟩
  have hu' : t.tmod 8 = u := by rw [tm _ _ ht0]; exact hu
  have hu0 : 0 ≤ u := by omega
  have hu1 : u < 8 := by omega
  obtain ⟨z, hz⟩ : ∃ z, a % 1024 = z := ⟨_, rfl⟩
  have hz' : a.tmod 1024 = z := by rw [tm _ _ ha0]; exact hz
  have hz0 : 0 ≤ z := by omega
  have hz1 : z < 1024 := by omega
  have key : ∀ N : Int, 0 ≤ N → unit ⟨pg, un, 4, mir, c, l, hh, p, bits, cnt, n, sel, lat, ctr, r0, r1, r2, r3, r4, r5, r6, r7, ld, al, ask⟩ u = N → ∃ r Y, chrOf ⟨pg, un, 4, mir, c, l, hh, p, bits, cnt, n, sel, lat, ctr, r0, r1, r2, r3, r4, r5, r6, r7, ld, al, ask⟩ a = Y + z ∧ r * 1024 = Y ∧ N % un = r ∧ N.tmod un = r ∧ 0 ≤ r ∧ r < 128 := fun N hN hr =>
    ⟨N % un, _, by unfold chrOf; simp only [ht, hu, hz]; rw [hr], rfl, rfl, tm _ _ hN, Int.emod_nonneg _ hgz, by have := Int.emod_lt_of_pos N (show 0 < un by omega); omega⟩
  obtain ⟨M4, hM4⟩ : ∃ y, sel / 128 = y := ⟨_, rfl⟩
  have hM4' : sel.tdiv 128 = M4 := by rw [td _ _ hl0]; exact hM4
  have hM40 : 0 ≤ M4 := by omega
  obtain ⟨M, hM⟩ : ∃ y, M4 % 2 = y := ⟨_, rfl⟩
  have hM' : M4.tmod 2 = M := by rw [tm _ _ hM40]; exact hM
  have hMs : sel / 128 % 2 = M := by omega
  have hMc : M = 0 ∨ M = 1 := by omega
  obtain rfl | rfl | rfl | rfl | rfl | rfl | rfl | rfl : u = 0 ∨ u = 1 ∨ u = 2 ∨ u = 3 ∨ u = 4 ∨ u = 5 ∨ u = 6 ∨ u = 7 := by omega
  · rcases hMc with rfl | rfl
    · skip
      obtain ⟨H, hH⟩ : ∃ y, r0 / 2 = y := ⟨_, rfl⟩
      have hH' : r0.tdiv 2 = H := by rw [td _ _ (by omega)]; exact hH
      have hH0 : 0 ≤ H := by omega
      have hH1 : H < 128 := by omega
      obtain ⟨X1, hX1⟩ : ∃ y, H * 2 = y := ⟨_, rfl⟩
      have hX10 : 0 ≤ X1 := by omega
      have hX11 : X1 < 4096 := by omega
      obtain ⟨r, Y, hr, hY, hr1, hr2, hr3, hr4⟩ := key X1 (by omega) (by unfold unit getR; simp [hMs]; omega)
      have hY0 : 0 ≤ Y := by omega
      have hY1 : Y < 200000 := by omega
      rw [hr]
      clear key tm td hr
      go_enter Try.func27, Try.ntmps27
      go_wp2
      go_ret
      exact ⟨rfl, rfl⟩
    · skip
      obtain ⟨r, Y, hr, hY, hr1, hr2, hr3, hr4⟩ := key r2 (by omega) (by unfold unit getR; simp [hMs])
      have hY0 : 0 ≤ Y := by omega
      have hY1 : Y < 200000 := by omega
      rw [hr]
      clear key tm td hr
      go_enter Try.func27, Try.ntmps27
      go_wp2
      go_ret
      exact ⟨rfl, rfl⟩
  · rcases hMc with rfl | rfl
    · skip
      obtain ⟨H, hH⟩ : ∃ y, r0 / 2 = y := ⟨_, rfl⟩
      have hH' : r0.tdiv 2 = H := by rw [td _ _ (by omega)]; exact hH
      have hH0 : 0 ≤ H := by omega
      have hH1 : H < 128 := by omega
      obtain ⟨X1, hX1⟩ : ∃ y, H * 2 = y := ⟨_, rfl⟩
      obtain ⟨N, hN⟩ : ∃ y, X1 + 1 = y := ⟨_, rfl⟩
      have hX10 : 0 ≤ X1 := by omega
      have hX11 : X1 < 4096 := by omega
      have hN0 : 0 ≤ N := by omega
      have hN1 : N < 4096 := by omega
      obtain ⟨r, Y, hr, hY, hr1, hr2, hr3, hr4⟩ := key N (by omega) (by unfold unit getR; simp [hMs]; omega)
      have hY0 : 0 ≤ Y := by omega
      have hY1 : Y < 200000 := by omega
      rw [hr]
      clear key tm td hr
      go_enter Try.func27, Try.ntmps27
      go_wp2
      go_ret
      exact ⟨rfl, rfl⟩
    · skip
      obtain ⟨r, Y, hr, hY, hr1, hr2, hr3, hr4⟩ := key r3 (by omega) (by unfold unit getR; simp [hMs])
      have hY0 : 0 ≤ Y := by omega
      have hY1 : Y < 200000 := by omega
      rw [hr]
      clear key tm td hr
      go_enter Try.func27, Try.ntmps27
      go_wp2
      go_ret
      exact ⟨rfl, rfl⟩
  · rcases hMc with rfl | rfl
    · skip
      obtain ⟨H, hH⟩ : ∃ y, r1 / 2 = y := ⟨_, rfl⟩
      have hH' : r1.tdiv 2 = H := by rw [td _ _ (by omega)]; exact hH
      have hH0 : 0 ≤ H := by omega
      have hH1 : H < 128 := by omega
      obtain ⟨X1, hX1⟩ : ∃ y, H * 2 = y := ⟨_, rfl⟩
      have hX10 : 0 ≤ X1 := by omega
      have hX11 : X1 < 4096 := by omega
      obtain ⟨r, Y, hr, hY, hr1, hr2, hr3, hr4⟩ := key X1 (by omega) (by unfold unit getR; simp [hMs]; omega)
      have hY0 : 0 ≤ Y := by omega
      have hY1 : Y < 200000 := by omega
      rw [hr]
      clear key tm td hr
      go_enter Try.func27, Try.ntmps27
      go_wp2
      go_ret
      exact ⟨rfl, rfl⟩
    · skip
      obtain ⟨r, Y, hr, hY, hr1, hr2, hr3, hr4⟩ := key r4 (by omega) (by unfold unit getR; simp [hMs])
      have hY0 : 0 ≤ Y := by omega
      have hY1 : Y < 200000 := by omega
      rw [hr]
      clear key tm td hr
      go_enter Try.func27, Try.ntmps27
      go_wp2
      go_ret
      exact ⟨rfl, rfl⟩
  · rcases hMc with rfl | rfl
    · skip
      obtain ⟨H, hH⟩ : ∃ y, r1 / 2 = y := ⟨_, rfl⟩
      have hH' : r1.tdiv 2 = H := by rw [td _ _ (by omega)]; exact hH
      have hH0 : 0 ≤ H := by omega
      have hH1 : H < 128 := by omega
      obtain ⟨X1, hX1⟩ : ∃ y, H * 2 = y := ⟨_, rfl⟩
      obtain ⟨N, hN⟩ : ∃ y, X1 + 1 = y := ⟨_, rfl⟩
      have hX10 : 0 ≤ X1 := by omega
      have hX11 : X1 < 4096 := by omega
      have hN0 : 0 ≤ N := by omega
      have hN1 : N < 4096 := by omega
      obtain ⟨r, Y, hr, hY, hr1, hr2, hr3, hr4⟩ := key N (by omega) (by unfold unit getR; simp [hMs]; omega)
      have hY0 : 0 ≤ Y := by omega
      have hY1 : Y < 200000 := by omega
      rw [hr]
      clear key tm td hr
      go_enter Try.func27, Try.ntmps27
      go_wp2
      go_ret
      exact ⟨rfl, rfl⟩
    · skip
      obtain ⟨r, Y, hr, hY, hr1, hr2, hr3, hr4⟩ := key r5 (by omega) (by unfold unit getR; simp [hMs])
      have hY0 : 0 ≤ Y := by omega
      have hY1 : Y < 200000 := by omega
      rw [hr]
      clear key tm td hr
      go_enter Try.func27, Try.ntmps27
      go_wp2
      go_ret
      exact ⟨rfl, rfl⟩
  · rcases hMc with rfl | rfl
    · skip
      obtain ⟨r, Y, hr, hY, hr1, hr2, hr3, hr4⟩ := key r2 (by omega) (by unfold unit getR; simp [hMs])
      have hY0 : 0 ≤ Y := by omega
      have hY1 : Y < 200000 := by omega
      rw [hr]
      clear key tm td hr
      go_enter Try.func27, Try.ntmps27
      go_wp2
      go_ret
      exact ⟨rfl, rfl⟩
    · skip
      obtain ⟨H, hH⟩ : ∃ y, r0 / 2 = y := ⟨_, rfl⟩
      have hH' : r0.tdiv 2 = H := by rw [td _ _ (by omega)]; exact hH
      have hH0 : 0 ≤ H := by omega
      have hH1 : H < 128 := by omega
      obtain ⟨X1, hX1⟩ : ∃ y, H * 2 = y := ⟨_, rfl⟩
      have hX10 : 0 ≤ X1 := by omega
      have hX11 : X1 < 4096 := by omega
      obtain ⟨r, Y, hr, hY, hr1, hr2, hr3, hr4⟩ := key X1 (by omega) (by unfold unit getR; simp [hMs]; omega)
      have hY0 : 0 ≤ Y := by omega
      have hY1 : Y < 200000 := by omega
      rw [hr]
      clear key tm td hr
      go_enter Try.func27, Try.ntmps27
      go_wp2
      go_ret
      exact ⟨rfl, rfl⟩
  · rcases hMc with rfl | rfl
    · skip
      obtain ⟨r, Y, hr, hY, hr1, hr2, hr3, hr4⟩ := key r3 (by omega) (by unfold unit getR; simp [hMs])
      have hY0 : 0 ≤ Y := by omega
      have hY1 : Y < 200000 := by omega
      rw [hr]
      clear key tm td hr
      go_enter Try.func27, Try.ntmps27
      go_wp2
      go_ret
      exact ⟨rfl, rfl⟩
    · skip
      obtain ⟨H, hH⟩ : ∃ y, r0 / 2 = y := ⟨_, rfl⟩
      have hH' : r0.tdiv 2 = H := by rw [td _ _ (by omega)]; exact hH
      have hH0 : 0 ≤ H := by omega
      have hH1 : H < 128 := by omega
      obtain ⟨X1, hX1⟩ : ∃ y, H * 2 = y := ⟨_, rfl⟩
      obtain ⟨N, hN⟩ : ∃ y, X1 + 1 = y := ⟨_, rfl⟩
      have hX10 : 0 ≤ X1 := by omega
      have hX11 : X1 < 4096 := by omega
      have hN0 : 0 ≤ N := by omega
      have hN1 : N < 4096 := by omega
      obtain ⟨r, Y, hr, hY, hr1, hr2, hr3, hr4⟩ := key N (by omega) (by unfold unit getR; simp [hMs]; omega)
      have hY0 : 0 ≤ Y := by omega
      have hY1 : Y < 200000 := by omega
      rw [hr]
      clear key tm td hr
      go_enter Try.func27, Try.ntmps27
      go_wp2
      go_ret
      exact ⟨rfl, rfl⟩
  · rcases hMc with rfl | rfl
    · skip
      obtain ⟨r, Y, hr, hY, hr1, hr2, hr3, hr4⟩ := key r4 (by omega) (by unfold unit getR; simp [hMs])
      have hY0 : 0 ≤ Y := by omega
      have hY1 : Y < 200000 := by omega
      rw [hr]
      clear key tm td hr
      go_enter Try.func27, Try.ntmps27
      go_wp2
      go_ret
      exact ⟨rfl, rfl⟩
    · skip
      obtain ⟨H, hH⟩ : ∃ y, r1 / 2 = y := ⟨_, rfl⟩
      have hH' : r1.tdiv 2 = H := by rw [td _ _ (by omega)]; exact hH
      have hH0 : 0 ≤ H := by omega
      have hH1 : H < 128 := by omega
      obtain ⟨X1, hX1⟩ : ∃ y, H * 2 = y := ⟨_, rfl⟩
      have hX10 : 0 ≤ X1 := by omega
      have hX11 : X1 < 4096 := by omega
      obtain ⟨r, Y, hr, hY, hr1, hr2, hr3, hr4⟩ := key X1 (by omega) (by unfold unit getR; simp [hMs]; omega)
      have hY0 : 0 ≤ Y := by omega
      have hY1 : Y < 200000 := by omega
      rw [hr]
      clear key tm td hr
      go_enter Try.func27, Try.ntmps27
      go_wp2
      go_ret
      exact ⟨rfl, rfl⟩
  · rcases hMc with rfl | rfl
    · skip
      obtain ⟨r, Y, hr, hY, hr1, hr2, hr3, hr4⟩ := key r5 (by omega) (by unfold unit getR; simp [hMs])
      have hY0 : 0 ≤ Y := by omega
      have hY1 : Y < 200000 := by omega
      rw [hr]
      clear key tm td hr
      go_enter Try.func27, Try.ntmps27
      go_wp2
      go_ret
      exact ⟨rfl, rfl⟩
    · skip
      obtain ⟨H, hH⟩ : ∃ y, r1 / 2 = y := ⟨_, rfl⟩
      have hH' : r1.tdiv 2 = H := by rw [td _ _ (by omega)]; exact hH
      have hH0 : 0 ≤ H := by omega
      have hH1 : H < 128 := by omega
      obtain ⟨X1, hX1⟩ : ∃ y, H * 2 = y := ⟨_, rfl⟩
      obtain ⟨N, hN⟩ : ∃ y, X1 + 1 = y := ⟨_, rfl⟩
      have hX10 : 0 ≤ X1 := by omega
      have hX11 : X1 < 4096 := by omega
      have hN0 : 0 ≤ N := by omega
      have hN1 : N < 4096 := by omega
      obtain ⟨r, Y, hr, hY, hr1, hr2, hr3, hr4⟩ := key N (by omega) (by unfold unit getR; simp [hMs]; omega)
      have hY0 : 0 ≤ Y := by omega
      have hY1 : Y < 200000 := by omega
      rw [hr]
      clear key tm td hr
      go_enter Try.func27, Try.ntmps27
      go_wp2
      go_ret
      exact ⟨rfl, rfl⟩

theorem rchr_any (w : World) (q : Nat) (S : St) (a : Int) (h : RefAt w q S) (ha0 : 0 ≤ a) (ha1 : a < 65536) (hO : Ok S) :
    Calls Try.prog 27 #[.pointer (some ⟨q, 0, none⟩), .int .u16 a] w fun e w' => e = .returned (.int .i64 (chrOf S a)) ∧ w = w' := by
  have hm := hO.mp
  obtain hm | hm | hm | hm | hm : S.mp = 0 ∨ S.mp = 1 ∨ S.mp = 2 ∨ S.mp = 3 ∨ S.mp = 4 := by omega
  · exact rchr0 w q S a h ha0 ha1 hO hm
  · exact rchr1 w q S a h ha0 ha1 hO hm
  · exact rchr2 w q S a h ha0 ha1 hO hm
  · exact rchr3 w q S a h ha0 ha1 hO hm
  · exact rchr4 w q S a h ha0 ha1 hO hm

end Nm
end Go.Proofs.Ytgakdlbdbiacgaa
