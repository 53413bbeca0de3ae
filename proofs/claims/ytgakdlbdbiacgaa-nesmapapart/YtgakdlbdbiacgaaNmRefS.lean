/-
  Contracts of the document's serial and Write. Condition: the state is one that there is.
-/
import Derived.Test.YtgakdlbdbiacgaaNmRefW
namespace Go.Proofs.Ytgakdlbdbiacgaa
open Go.RowKit
namespace Nm

set_option maxRecDepth 100000 in
set_option maxHeartbeats 4000000 in
theorem rserial_any (w : World) (q : Nat) (S : St) (a v : Int) (h : RefAt w q S) (ha : 0 ≤ a ∧ a < 65536) (hv : byte v) (hO : Ok S) :
    Calls Try.prog 23 #[.pointer (some ⟨q, 0, none⟩), .int .u16 a, .int .i64 v] w (RDone w q (serW S a v)) := by
  obtain ⟨hc0, hc1⟩ := hO.c
  obtain ⟨hn0, hn1⟩ := hO.cnt
  obtain ⟨hb0, hb1⟩ := hO.bits
  obtain ⟨ht0, ht1⟩ := two_pos S.cnt
  clear hO
  obtain ⟨pg, un, mp, mir, c, l, hh, p, bits, cnt, n, sel, lat, ctr, r0, r1, r2, r3, r4, r5, r6, r7, ld, al, ask⟩ := S
  have HB := Lib.hid h
  have hb : Blk w q 40 #[.int .i64 pg, .int .i64 un, .int .i64 mp, .int .i64 mir, .int .i64 c, .int .i64 l, .int .i64 hh, .int .i64 p, .int .i64 bits, .int .i64 cnt, .int .i64 n, .int .i64 sel, .int .i64 lat, .int .i64 ctr, .int .i64 r0, .int .i64 r1, .int .i64 r2, .int .i64 r3, .int .i64 r4, .int .i64 r5, .int .i64 r6, .int .i64 r7, .bool ld, .bool al, .bool ask] := h
  obtain ⟨-, -, -, -, d4, d5, d6, d7, d8, d9, -, -, -, -, -, -, -, -, -, -, -, -, -, -, -⟩ := blk25 hb
  have f4 := hb.frozen 4
  have f5 := hb.frozen 5
  have f6 := hb.frozen 6
  have f7 := hb.frozen 7
  have f8 := hb.frozen 8
  have f9 := hb.frozen 9
  simp only at hc0 hc1 hn0 hn1 hb0 hb1 ht0 ht1
  clear hb h
  obtain ⟨ha0, ha1⟩ := ha
  obtain ⟨hv0, hv1⟩ := hv
  unfold serW
  by_cases h1 : 128 ≤ v
  · rw [if_pos h1]
    clear hn0 hn1 hb0 hb1 ht0 ht1
    have HQ : ∀ C : Int, C = orC c → Hid (RDone w q ⟨pg, un, mp, mir, orC c, l, hh, p, 0, 0, n, sel, lat, ctr, r0, r1, r2, r3, r4, r5, r6, r7, ld, al, ask⟩ (.returned (.tuple #[])) (((w.setCell ⟨q, 8, none⟩ (.int .i64 0)).setCell ⟨q, 9, none⟩ (.int .i64 0)).setCell ⟨q, 4, none⟩ (.int .i64 C))) := by
      rintro C rfl
      exact Lib.hid (rdone_put (ref_put (ref_put HB.out 8 _ ⟨pg, un, mp, mir, c, l, hh, p, 0, cnt, n, sel, lat, ctr, r0, r1, r2, r3, r4, r5, r6, r7, ld, al, ask⟩ rfl) 9 _ ⟨pg, un, mp, mir, c, l, hh, p, 0, 0, n, sel, lat, ctr, r0, r1, r2, r3, r4, r5, r6, r7, ld, al, ask⟩ rfl) (((Fr.refl [q] w).setCell (by simp) _).setCell (by simp) _) 4 _ _ rfl)
    have HQ0 : orC c = c → Hid (RDone w q ⟨pg, un, mp, mir, orC c, l, hh, p, 0, 0, n, sel, lat, ctr, r0, r1, r2, r3, r4, r5, r6, r7, ld, al, ask⟩ (.returned (.tuple #[])) ((w.setCell ⟨q, 8, none⟩ (.int .i64 0)).setCell ⟨q, 9, none⟩ (.int .i64 0))) := by
      intro hC
      rw [hC]
      exact Lib.hid (rdone_put (ref_put HB.out 8 _ ⟨pg, un, mp, mir, c, l, hh, p, 0, cnt, n, sel, lat, ctr, r0, r1, r2, r3, r4, r5, r6, r7, ld, al, ask⟩ rfl) ((Fr.refl [q] w).setCell (by simp) _) 9 _ _ rfl)
    have HQ2 : ∀ C D : Int, D = orC c → Hid (RDone w q ⟨pg, un, mp, mir, orC c, l, hh, p, 0, 0, n, sel, lat, ctr, r0, r1, r2, r3, r4, r5, r6, r7, ld, al, ask⟩ (.returned (.tuple #[])) ((((w.setCell ⟨q, 8, none⟩ (.int .i64 0)).setCell ⟨q, 9, none⟩ (.int .i64 0)).setCell ⟨q, 4, none⟩ (.int .i64 C)).setCell ⟨q, 4, none⟩ (.int .i64 D))) := by
      rintro C D rfl
      exact Lib.hid (rdone_put (ref_put (ref_put (ref_put HB.out 8 _ ⟨pg, un, mp, mir, c, l, hh, p, 0, cnt, n, sel, lat, ctr, r0, r1, r2, r3, r4, r5, r6, r7, ld, al, ask⟩ rfl) 9 _ ⟨pg, un, mp, mir, c, l, hh, p, 0, 0, n, sel, lat, ctr, r0, r1, r2, r3, r4, r5, r6, r7, ld, al, ask⟩ rfl) 4 _ ⟨pg, un, mp, mir, C, l, hh, p, 0, 0, n, sel, lat, ctr, r0, r1, r2, r3, r4, r5, r6, r7, ld, al, ask⟩ rfl) ((((Fr.refl [q] w).setCell (by simp) _).setCell (by simp) _).setCell (by simp) _) 4 _ _ rfl)
    obtain ⟨x4, hx4⟩ : ∃ x, c / 4 = x := ⟨_, rfl⟩
    obtain ⟨x8, hx8⟩ : ∃ x, c / 8 = x := ⟨_, rfl⟩
    obtain ⟨C4, hC4⟩ : ∃ x, c + 4 = x := ⟨_, rfl⟩
    obtain ⟨C8, hC8⟩ : ∃ x, c + 8 = x := ⟨_, rfl⟩
    obtain ⟨C12, hC12⟩ : ∃ x, C4 + 8 = x := ⟨_, rfl⟩
    have k4 : 0 ≤ C4 ∧ C4 < 64 := by omega
    obtain ⟨k40, k41⟩ := k4
    by_cases e1 : x4 % 2 = 0
    · have q1 : C4 / 8 = x8 := by omega
      have q2 : x4 % 2 = 0 := e1
      by_cases e2 : x8 % 2 = 0
      · have HQ' := HQ2 C4 C12 (by unfold orC; rw [hx4, hx8, if_pos e1, if_pos e2]; omega)
        clear HQ HQ0 HQ2 hx8
        go_enter Try.func23, Try.ntmps23
        go_wp2
        (first | go_end0 | refine bodyPost_ret (results_none rfl _ _ _) rfl ?_)
        exact HQ'.out
      · have HQ' := HQ C4 (by unfold orC; rw [hx4, hx8, if_pos e1, if_neg e2]; omega)
        clear HQ HQ0 HQ2 hx8
        go_enter Try.func23, Try.ntmps23
        go_wp2
        (first | go_end0 | refine bodyPost_ret (results_none rfl _ _ _) rfl ?_)
        exact HQ'.out
    · by_cases e2 : x8 % 2 = 0
      · have HQ' := HQ C8 (by unfold orC; rw [hx4, hx8, if_neg e1, if_pos e2]; omega)
        clear HQ HQ0 HQ2
        go_enter Try.func23, Try.ntmps23
        go_wp2
        (first | go_end0 | refine bodyPost_ret (results_none rfl _ _ _) rfl ?_)
        exact HQ'.out
      · have HQ' := HQ0 (by unfold orC; rw [hx4, hx8, if_neg e1, if_neg e2]; omega)
        clear HQ HQ0 HQ2
        go_enter Try.func23, Try.ntmps23
        go_wp2
        (first | go_end0 | refine bodyPost_ret (results_none rfl _ _ _) rfl ?_)
        exact HQ'.out
  rw [if_neg h1]
  obtain ⟨x, hx⟩ : ∃ x, v % 2 = x := ⟨_, rfl⟩
  have hx' : v.tmod 2 = x := by rw [Int.tmod_eq_emod_of_nonneg hv0]; exact hx
  have hx0 : 0 ≤ x := by omega
  have hx1 : x ≤ 1 := by omega
  rw [hx]
  obtain ⟨T2, hT2⟩ : ∃ y, two cnt = y := ⟨_, rfl⟩
  rw [hT2] at hb1 ht0 ht1 ⊢
  obtain ⟨Y, hY⟩ : ∃ y, x * T2 = y := ⟨_, rfl⟩
  have hY0 : 0 ≤ Y := by rw [← hY]; exact Int.mul_nonneg hx0 (by omega)
  have hY1 : Y ≤ 16 := by
    obtain rfl | rfl : x = 0 ∨ x = 1 := by omega
    all_goals omega
  obtain ⟨NB, hNB⟩ : ∃ y, bits + Y = y := ⟨_, rfl⟩
  obtain ⟨NC, hNC⟩ : ∃ y, cnt + 1 = y := ⟨_, rfl⟩
  have hw16 : ∀ i : Int, 0 ≤ i → i < cnt → two (i + 1) = 2 * two i ∧ 1 ≤ two i ∧ two i ≤ 16 := fun i h0 h2 => ⟨two_next i h0 (by omega), two_pos i⟩
  have HW16 := Lib.hid hw16
  have HT2 := Lib.hid hT2
  have HP : Hid (∀ T : St, (refC ⟨pg, un, mp, mir, c, l, hh, p, NB, cnt, n, sel, lat, ctr, r0, r1, r2, r3, r4, r5, r6, r7, ld, al, ask⟩).setIfInBounds 9 (.int .i64 NC) = refC T → RDone w q T (.returned (.tuple #[])) ((w.setCell ⟨q, 8, none⟩ (.int .i64 NB)).setCell ⟨q, 9, none⟩ (.int .i64 NC))) := Lib.hid fun T hT =>
    rdone_put (ref_put HB.out 8 _ ⟨pg, un, mp, mir, c, l, hh, p, NB, cnt, n, sel, lat, ctr, r0, r1, r2, r3, r4, r5, r6, r7, ld, al, ask⟩ rfl) ((Fr.refl [q] w).setCell (by simp) _) 9 _ T hT
  have HP4 : Hid (RDone w q ⟨pg, un, mp, mir, NB, l, hh, p, 0, 0, n, sel, lat, ctr, r0, r1, r2, r3, r4, r5, r6, r7, ld, al, ask⟩ (.returned (.tuple #[])) (((((w.setCell ⟨q, 8, none⟩ (.int .i64 NB)).setCell ⟨q, 9, none⟩ (.int .i64 NC)).setCell ⟨q, 4, none⟩ (.int .i64 NB)).setCell ⟨q, 8, none⟩ (.int .i64 0)).setCell ⟨q, 9, none⟩ (.int .i64 0))) := Lib.hid
    (rdone_put (ref_put (ref_put (ref_put (ref_put HB.out 8 _ ⟨pg, un, mp, mir, c, l, hh, p, NB, cnt, n, sel, lat, ctr, r0, r1, r2, r3, r4, r5, r6, r7, ld, al, ask⟩ rfl) 9 _ ⟨pg, un, mp, mir, c, l, hh, p, NB, NC, n, sel, lat, ctr, r0, r1, r2, r3, r4, r5, r6, r7, ld, al, ask⟩ rfl) 4 _ ⟨pg, un, mp, mir, NB, l, hh, p, NB, NC, n, sel, lat, ctr, r0, r1, r2, r3, r4, r5, r6, r7, ld, al, ask⟩ rfl) 8 _ ⟨pg, un, mp, mir, NB, l, hh, p, 0, NC, n, sel, lat, ctr, r0, r1, r2, r3, r4, r5, r6, r7, ld, al, ask⟩ rfl) (((((Fr.refl [q] w).setCell (by simp) _).setCell (by simp) _).setCell (by simp) _).setCell (by simp) _) 9 _ _ rfl)
  have HP5 : Hid (RDone w q ⟨pg, un, mp, mir, c, NB, hh, p, 0, 0, n, sel, lat, ctr, r0, r1, r2, r3, r4, r5, r6, r7, ld, al, ask⟩ (.returned (.tuple #[])) (((((w.setCell ⟨q, 8, none⟩ (.int .i64 NB)).setCell ⟨q, 9, none⟩ (.int .i64 NC)).setCell ⟨q, 5, none⟩ (.int .i64 NB)).setCell ⟨q, 8, none⟩ (.int .i64 0)).setCell ⟨q, 9, none⟩ (.int .i64 0))) := Lib.hid
    (rdone_put (ref_put (ref_put (ref_put (ref_put HB.out 8 _ ⟨pg, un, mp, mir, c, l, hh, p, NB, cnt, n, sel, lat, ctr, r0, r1, r2, r3, r4, r5, r6, r7, ld, al, ask⟩ rfl) 9 _ ⟨pg, un, mp, mir, c, l, hh, p, NB, NC, n, sel, lat, ctr, r0, r1, r2, r3, r4, r5, r6, r7, ld, al, ask⟩ rfl) 5 _ ⟨pg, un, mp, mir, c, NB, hh, p, NB, NC, n, sel, lat, ctr, r0, r1, r2, r3, r4, r5, r6, r7, ld, al, ask⟩ rfl) 8 _ ⟨pg, un, mp, mir, c, NB, hh, p, 0, NC, n, sel, lat, ctr, r0, r1, r2, r3, r4, r5, r6, r7, ld, al, ask⟩ rfl) (((((Fr.refl [q] w).setCell (by simp) _).setCell (by simp) _).setCell (by simp) _).setCell (by simp) _) 9 _ _ rfl)
  have HP6 : Hid (RDone w q ⟨pg, un, mp, mir, c, l, NB, p, 0, 0, n, sel, lat, ctr, r0, r1, r2, r3, r4, r5, r6, r7, ld, al, ask⟩ (.returned (.tuple #[])) (((((w.setCell ⟨q, 8, none⟩ (.int .i64 NB)).setCell ⟨q, 9, none⟩ (.int .i64 NC)).setCell ⟨q, 6, none⟩ (.int .i64 NB)).setCell ⟨q, 8, none⟩ (.int .i64 0)).setCell ⟨q, 9, none⟩ (.int .i64 0))) := Lib.hid
    (rdone_put (ref_put (ref_put (ref_put (ref_put HB.out 8 _ ⟨pg, un, mp, mir, c, l, hh, p, NB, cnt, n, sel, lat, ctr, r0, r1, r2, r3, r4, r5, r6, r7, ld, al, ask⟩ rfl) 9 _ ⟨pg, un, mp, mir, c, l, hh, p, NB, NC, n, sel, lat, ctr, r0, r1, r2, r3, r4, r5, r6, r7, ld, al, ask⟩ rfl) 6 _ ⟨pg, un, mp, mir, c, l, NB, p, NB, NC, n, sel, lat, ctr, r0, r1, r2, r3, r4, r5, r6, r7, ld, al, ask⟩ rfl) 8 _ ⟨pg, un, mp, mir, c, l, NB, p, 0, NC, n, sel, lat, ctr, r0, r1, r2, r3, r4, r5, r6, r7, ld, al, ask⟩ rfl) (((((Fr.refl [q] w).setCell (by simp) _).setCell (by simp) _).setCell (by simp) _).setCell (by simp) _) 9 _ _ rfl)
  have HP7 : Hid (RDone w q ⟨pg, un, mp, mir, c, l, hh, NB, 0, 0, n, sel, lat, ctr, r0, r1, r2, r3, r4, r5, r6, r7, ld, al, ask⟩ (.returned (.tuple #[])) (((((w.setCell ⟨q, 8, none⟩ (.int .i64 NB)).setCell ⟨q, 9, none⟩ (.int .i64 NC)).setCell ⟨q, 7, none⟩ (.int .i64 NB)).setCell ⟨q, 8, none⟩ (.int .i64 0)).setCell ⟨q, 9, none⟩ (.int .i64 0))) := Lib.hid
    (rdone_put (ref_put (ref_put (ref_put (ref_put HB.out 8 _ ⟨pg, un, mp, mir, c, l, hh, p, NB, cnt, n, sel, lat, ctr, r0, r1, r2, r3, r4, r5, r6, r7, ld, al, ask⟩ rfl) 9 _ ⟨pg, un, mp, mir, c, l, hh, p, NB, NC, n, sel, lat, ctr, r0, r1, r2, r3, r4, r5, r6, r7, ld, al, ask⟩ rfl) 7 _ ⟨pg, un, mp, mir, c, l, hh, NB, NB, NC, n, sel, lat, ctr, r0, r1, r2, r3, r4, r5, r6, r7, ld, al, ask⟩ rfl) 8 _ ⟨pg, un, mp, mir, c, l, hh, NB, 0, NC, n, sel, lat, ctr, r0, r1, r2, r3, r4, r5, r6, r7, ld, al, ask⟩ rfl) (((((Fr.refl [q] w).setCell (by simp) _).setCell (by simp) _).setCell (by simp) _).setCell (by simp) _) 9 _ _ rfl)
  have hloop : ∀ (P : Ending → World → Prop), (∀ e w', RDone w q (if cnt < 4 then ⟨pg, un, mp, mir, c, l, hh, p, NB, NC, n, sel, lat, ctr, r0, r1, r2, r3, r4, r5, r6, r7, ld, al, ask⟩ else if a < 40960 then ⟨pg, un, mp, mir, NB, l, hh, p, 0, 0, n, sel, lat, ctr, r0, r1, r2, r3, r4, r5, r6, r7, ld, al, ask⟩ else if a < 49152 then ⟨pg, un, mp, mir, c, NB, hh, p, 0, 0, n, sel, lat, ctr, r0, r1, r2, r3, r4, r5, r6, r7, ld, al, ask⟩ else if a < 57344 then ⟨pg, un, mp, mir, c, l, NB, p, 0, 0, n, sel, lat, ctr, r0, r1, r2, r3, r4, r5, r6, r7, ld, al, ask⟩ else ⟨pg, un, mp, mir, c, l, hh, NB, 0, 0, n, sel, lat, ctr, r0, r1, r2, r3, r4, r5, r6, r7, ld, al, ask⟩) e w' → P e w') → Calls Try.prog 23 #[.pointer (some ⟨q, 0, none⟩), .int .u16 a, .int .i64 v] w P := by
    intro P HPP
    have HPP := Lib.hid HPP
    clear hT2 hw16 hx
    go_enter Try.func23, Try.ntmps23
    go_wp2_with fail
    go_loopw [6, 7] (fun s6 s7 wr => ∃ i : Int, s6 = .int .i64 (two i) ∧ s7 = .int .i64 i ∧ 0 ≤ i ∧ i ≤ cnt ∧ wr = w) (fun _ s7 _ => (cnt - intOf s7).toNat)
    case atStart => exact ⟨0, rfl, rfl, by omega, hn0, rfl⟩
    case round =>
      obtain ⟨i, rfl, rfl, hi0, hi1, rfl⟩ := hrel
      by_cases hlt : i < cnt
      · obtain ⟨k1, k2, k3⟩ := HW16.out i hi0 hlt
        obtain ⟨t, ht⟩ : ∃ t, two i = t := ⟨_, rfl⟩
        have HK1 := Lib.hid k1
        rw [ht] at k2 k3 ⊢
        clear k1
        go_wp2
        go_roundw
        case rel => exact ⟨i + 1, by rw [HK1.out, ht]; congr 1; omega, by go_num, by omega, by omega, trivial⟩
        case measure => simp [intOf]; omega
      · obtain rfl : i = cnt := by omega
        rw [HT2.out]
        clear hlt hi1
        by_cases h4 : i < 4
        · have G4 := Lib.hid h4
          have hN5 : NC < 5 := by omega
          go_wp2
          (first | go_end0 | refine bodyPost_ret (results_none rfl _ _ _) rfl ?_)
          exact HPP.out _ _ (by rw [if_pos G4.out]; exact HP.out ⟨pg, un, mp, mir, c, l, hh, p, NB, NC, n, sel, lat, ctr, r0, r1, r2, r3, r4, r5, r6, r7, ld, al, ask⟩ rfl)
        · have G4 := Lib.hid h4
          have hN5 : ¬ NC < 5 := by omega
          by_cases g1 : a < 40960
          · have G1 := Lib.hid g1
            go_wp2
            (first | go_end0 | refine bodyPost_ret (results_none rfl _ _ _) rfl ?_)
            exact HPP.out _ _ (by rw [if_neg (by have := G4.out; omega), if_pos G1.out]; exact HP4.out)
          have G1 := Lib.hid g1
          by_cases g2 : a < 49152
          · have G2 := Lib.hid g2
            go_wp2
            (first | go_end0 | refine bodyPost_ret (results_none rfl _ _ _) rfl ?_)
            exact HPP.out _ _ (by rw [if_neg (by have := G4.out; omega), if_neg (by have := G1.out; omega), if_pos G2.out]; exact HP5.out)
          have G2 := Lib.hid g2
          by_cases g3 : a < 57344
          · have G3 := Lib.hid g3
            go_wp2
            (first | go_end0 | refine bodyPost_ret (results_none rfl _ _ _) rfl ?_)
            exact HPP.out _ _ (by rw [if_neg (by have := G4.out; omega), if_neg (by have := G1.out; omega), if_neg (by have := G2.out; omega), if_pos G3.out]; exact HP6.out)
          have G3 := Lib.hid g3
          go_wp2
          (first | go_end0 | refine bodyPost_ret (results_none rfl _ _ _) rfl ?_)
          exact HPP.out _ _ (by rw [if_neg (by have := G4.out; omega), if_neg (by have := G1.out; omega), if_neg (by have := G2.out; omega), if_neg (by have := G3.out; omega)]; exact HP7.out)
  refine hloop _ fun e w' hd => ?_
  by_cases h4 : cnt < 4
  · rw [if_pos h4] at hd ⊢
    rw [hY, hNB, hNC]
    exact hd
  · rw [if_neg h4] at hd ⊢
    obtain rfl : cnt = 4 := by omega
    have h16 : T2 = 16 := by rw [← hT2]; rfl
    rw [h16] at hY
    rw [hY, hNB]
    exact hd

set_option maxRecDepth 100000 in
set_option maxHeartbeats 4000000 in
theorem rwrite_any (w : World) (q : Nat) (S : St) (a v : Int) (h : RefAt w q S) (ha : 0 ≤ a ∧ a < 65536) (hv : byte v) (hO : Ok S) :
    Calls Try.prog 14 #[.pointer (some ⟨q, 0, none⟩), .int .u16 a, .int .u8 v] w (RDone w q (wr S a v)) := by
  have HS : Hid (∀ T : St, T = S → Calls Try.prog 23 #[.pointer (some ⟨q, 0, none⟩), .int .u16 a, .int .i64 v] w (RDone w q (serW T a v))) := Lib.hid (by rintro T rfl; exact rserial_any w q T a v h ha hv hO)
  have HC : Hid (∀ T : St, T = S → Calls Try.prog 24 #[.pointer (some ⟨q, 0, none⟩), .int .u16 a, .int .i64 v] w (RDone w q (cntW T a v))) := Lib.hid (by rintro T rfl; exact rcounted_any w q T a v h ha hv hO.sel)
  obtain ⟨hm0, hm1⟩ := hO.mp
  clear hO
  obtain ⟨pg, un, mp, mir, c, l, hh, p, bits, cnt, n, sel, lat, ctr, r0, r1, r2, r3, r4, r5, r6, r7, ld, al, ask⟩ := S
  have HB := Lib.hid h
  have hb : Blk w q 40 #[.int .i64 pg, .int .i64 un, .int .i64 mp, .int .i64 mir, .int .i64 c, .int .i64 l, .int .i64 hh, .int .i64 p, .int .i64 bits, .int .i64 cnt, .int .i64 n, .int .i64 sel, .int .i64 lat, .int .i64 ctr, .int .i64 r0, .int .i64 r1, .int .i64 r2, .int .i64 r3, .int .i64 r4, .int .i64 r5, .int .i64 r6, .int .i64 r7, .bool ld, .bool al, .bool ask] := h
  obtain ⟨-, -, d2, -, -, -, -, -, -, -, d10, -, -, -, -, -, -, -, -, -, -, -, -, -, -⟩ := blk25 hb
  have f10 := hb.frozen 10
  simp only at hm0 hm1
  have HS' := Lib.hid (HS.out _ rfl)
  have HC' := Lib.hid (HC.out _ rfl)
  clear hb h HS HC
  obtain ⟨ha0, ha1⟩ := ha
  obtain ⟨hv0, hv1⟩ := hv
  unfold wr
  by_cases h1 : a < 32768
  · rw [if_pos h1]
    clear hm0 hm1
    go_enter Try.func14, Try.ntmps14
    go_wp2
    (first | go_end0 | refine bodyPost_ret (results_none rfl _ _ _) rfl ?_)
    exact ⟨rfl, HB.out, Fr.refl _ _⟩
  rw [if_neg h1]
  obtain rfl | rfl | rfl | rfl | rfl : mp = 0 ∨ mp = 1 ∨ mp = 2 ∨ mp = 3 ∨ mp = 4 := by omega
  · simp only [Int.reduceEq, if_false, or_self]
    clear hm0 hm1
    go_enter Try.func14, Try.ntmps14
    go_wp2
    (first | go_end0 | refine bodyPost_ret (results_none rfl _ _ _) rfl ?_)
    exact ⟨rfl, HB.out, Fr.refl _ _⟩
  · simp only [if_true]
    clear hm0 hm1
    have hm := (like_serW ⟨pg, un, 1, mir, c, l, hh, p, bits, cnt, n, sel, lat, ctr, r0, r1, r2, r3, r4, r5, r6, r7, ld, al, ask⟩ a v).2.2
    generalize serW _ a v = T at *
    have HM := Lib.hid hm
    clear hm
    go_enter Try.func14, Try.ntmps14
    go_wp2_with fail
    (with_reducible refine HS'.out.mono ?_)
    rintro e w1 ⟨rfl, hr, hf⟩
    have e2 : w1.cell? ⟨q, 2, none⟩ = some (.int .i64 1) := by
      rw [Blk.cell hr 2]
      change some (Value.int .i64 T.mp) = _
      rw [HM.out]
    have HR := Lib.hid hr
    have HF := Lib.hid hf
    clear hr hf
    go_wp2
    (first | go_end0 | refine bodyPost_ret (results_none rfl _ _ _) rfl ?_)
    exact ⟨rfl, HR.out, HF.out⟩
  · simp only [Int.reduceEq, if_false, if_true, or_false]
    clear hm0 hm1
    go_enter Try.func14, Try.ntmps14
    go_wp2
    (first | go_end0 | refine bodyPost_ret (results_none rfl _ _ _) rfl ?_)
    exact rdone_put HB.out (Fr.refl _ _) _ _ _ rfl
  · simp only [Int.reduceEq, if_false, if_true, or_true]
    clear hm0 hm1
    go_enter Try.func14, Try.ntmps14
    go_wp2
    (first | go_end0 | refine bodyPost_ret (results_none rfl _ _ _) rfl ?_)
    exact rdone_put HB.out (Fr.refl _ _) _ _ _ rfl
  · simp only [Int.reduceEq, if_false, if_true, or_false]
    clear hm0 hm1
    go_enter Try.func14, Try.ntmps14
    go_wp2_with fail
    (with_reducible refine HC'.out.mono ?_)
    rintro e w1 ⟨rfl, hr, hf⟩
    go_wp2
    (first | go_end0 | refine bodyPost_ret (results_none rfl _ _ _) rfl ?_)
    exact ⟨rfl, hr, hf⟩

end Nm
end Go.Proofs.Ytgakdlbdbiacgaa
