/-
  picklocklaw10.GbheadParses returns true for every input. Condition: the table of RAM's sizes holds what its text lays.
-/
import Derived.Test.YthomlnaabkfcpaaDoorGbShown
namespace Go.Proofs.YthomlnaabkfcpaaDoor
open Go.RowKit
namespace Gb

theorem blk8 {w : World} {g : Nat} {t : TypeId} {a b c d e f h i : Value} (k : Blk w g t #[a, b, c, d, e, f, h, i]) :
    w.cell? ⟨g, 0, none⟩ = some a ∧ w.cell? ⟨g, 1, none⟩ = some b ∧ w.cell? ⟨g, 2, none⟩ = some c ∧ w.cell? ⟨g, 3, none⟩ = some d ∧ w.cell? ⟨g, 4, none⟩ = some e ∧ w.cell? ⟨g, 5, none⟩ = some f ∧ w.cell? ⟨g, 6, none⟩ = some h ∧ w.cell? ⟨g, 7, none⟩ = some i :=
  ⟨k.cell 0, k.cell 1, k.cell 2, k.cell 3, k.cell 4, k.cell 5, k.cell 6, k.cell 7⟩
theorem and24 (n : Int) : 0 ≤ bits .and .i64 n 16777215 ∧ bits .and .i64 n 16777215 ≤ 16777215 := by
  have h : (BitVec.ofInt 64 16777215).toNat = 2 ^ 24 - 1 := by decide
  have key : (BitVec.ofInt 64 n &&& BitVec.ofInt 64 16777215).toNat = (n % ((2 ^ 64 : Nat) : Int)).toNat % 2 ^ 24 := by
    rw [BitVec.toNat_and, BitVec.toNat_ofInt, h, Nat.and_two_pow_sub_one_eq_mod]
  have e : bits .and .i64 n 16777215 = IntKind.i64.wrap ((BitVec.ofInt 64 n &&& BitVec.ofInt 64 16777215).toNat : Nat) := rfl
  rw [e, key, IntKind.wrap_i64]
  omega
/-- A number below k. -/
theorem below_of (z k : Int) (hk : 0 < k) : ∃ p : Nat, (bits .and .i64 z 16777215).tmod k = (p : Int) ∧ (p : Int) < k := by
  have h := and24 z
  rw [Int.tmod_eq_emod_of_nonneg h.1]
  have h1 := Int.emod_nonneg (bits .and .i64 z 16777215) (show k ≠ 0 by omega)
  have h2 := Int.emod_lt_of_pos (bits .and .i64 z 16777215) hk
  exact ⟨((bits .and .i64 z 16777215) % k).toNat, by omega, by omega⟩
theorem place_of (z : Int) : ∃ q : Nat, (bits .and .i64 z 65535).tmod 26 = (q : Int) ∧ q < 26 := by
  have h := and65535 z
  rw [Int.tmod_eq_emod_of_nonneg h.1]
  have h1 := Int.emod_nonneg (bits .and .i64 z 65535) (show (26 : Int) ≠ 0 by decide)
  have h2 := Int.emod_lt_of_pos (bits .and .i64 z 65535) (show (0 : Int) < 26 by decide)
  exact ⟨((bits .and .i64 z 65535) % 26).toNat, by omega, by omega⟩
theorem test_of (b : Bool) (n : Nat) : (b = true ∧ 400 < n) ∨ b = false ∨ (b = true ∧ ¬ 400 < n) := by
  cases b
  · exact .inr (.inl rfl)
  · by_cases h : 400 < n
    · exact .inl ⟨rfl, h⟩
    · exact .inr (.inr ⟨rfl, h⟩)

set_option maxRecDepth 100000 in
set_option maxHeartbeats 4000000 in
theorem parses_walk (N : Int) (f a b c : UInt8) (P : Int) (x : UInt8) (O : Int) (w : World) (hT : Tab w) :
    Calls Tryd.prog 3 #[.agg #[.int .i64 N, .int .u8 (f.toNat : Int), .int .u8 (a.toNat : Int), .int .u8 (b.toNat : Int), .int .u8 (c.toNat : Int), .int .i64 P, .int .u8 (x.toNat : Int), .int .i64 O]] w fun e w' => e = .returned (.bool true) ∧ Below w.heap.size w w' := by
  have HT := Lib.hid hT
  obtain ⟨n, hn, hn2⟩ := below_of N 140001 (by decide)
  obtain ⟨q, hq, hq2⟩ := place_of P
  have hn3 : n < 140001 := by omega
  have HFl := Lib.hid (fun W => file_any W n f a b c (by omega))
  obtain ⟨o1, ho1⟩ : ∃ o, bits .and .i64 O 1 = o := ⟨_, rfl⟩
  obtain ⟨o2, ho2⟩ : ∃ o, bits .and .i64 O 2 = o := ⟨_, rfl⟩
  have ht1 := Lib.hid (test_of (o1 == 1) n)
  have ht2 := Lib.hid (test_of (o2 == 2) n)
  obtain ⟨qq, hqq⟩ : ∃ qq, 308 + q = qq := ⟨_, rfl⟩
  have k3 : wrap64 ((308 : Int) + q) = (qq : Int) := by unfold wrap64; omega
  have k4 : qq < 334 := by omega
  clear hq2 hqq
  obtain ⟨z, hz⟩ : ∃ z, w.heap.size = z := ⟨_, rfl⟩
  have hb0 := Blk.fresh w 24 #[.int .i64 N, .int .u8 (f.toNat : Int), .int .u8 (a.toNat : Int), .int .u8 (b.toNat : Int), .int .u8 (c.toNat : Int), .int .i64 P, .int .u8 (x.toNat : Int), .int .i64 O]
  have hal : Fr [] w (w.alloc (.cells #[.int .i64 N, .int .u8 (f.toNat : Int), .int .u8 (a.toNat : Int), .int .u8 (b.toNat : Int), .int .u8 (c.toNat : Int), .int .i64 P, .int .u8 (x.toNat : Int), .int .i64 O] 24)) := (Fr.refl [] w).alloc _
  rw [hz] at hb0
  have HZ0 := Lib.hid hb0
  have HF0 := Lib.hid hal
  clear hb0 hT hal
  go_enter Tryd.func3, Tryd.ntmps3
  go_upto_region 1 with fail
  generalize w.alloc _ = w0 at *
  go_wp2_with fail
  (with_reducible refine (shown10 w0 (HT.out.later HF0.out)).mono ?_)
  rintro e w1 ⟨rfl, hf1⟩
  have HZ1 := Lib.hid (HZ0.out.fr hf1 (by simp))
  have HF1 := Lib.hid (HF0.out.tr hf1)
  obtain ⟨q0, q1, q2, q3, q4, q5, q6, q7⟩ := blk8 HZ1.out
  clear hf1 HZ0 HF0
  go_wp2_with fail
  (with_reducible refine (HFl.out w1).mono ?_)
  rintro e w2 ⟨g, l, hg, rfl, hb2, hl2, -, hf2⟩
  have hgz : g ≠ z := by have := HZ1.out.lt; omega
  have HZ2 := Lib.hid (HZ1.out.fr hf2 (by simp))
  have hwg : w.heap.size ≤ g := by have := HF1.out.size; omega
  have HF2 := Lib.hid (HF1.out.tr hf2)
  have HB2 := Lib.hid hb2
  have HL2 := Lib.hid hl2
  clear hb2 hl2 hf2 HZ1 HF1 HFl q0 q1 q2 q3 q4 q5 q6 q7 hg hn
  obtain ⟨q0, q1, q2, q3, q4, q5, q6, q7⟩ := blk8 HZ2.out
  rcases ht1.out with ⟨hy2, hy400⟩ | hy2 | ⟨hy2, hy400⟩
  · have h400 : (400 : Int) < n := by omega
    have k1 : (qq : Int) < n := by omega
    have k2 : (0 : Int) ≤ qq := by omega
    have c1 := blk_at HB2.out qq (by rw [HL2.out]; omega)
    have f1 := HB2.out.frozen qq
    have HB3 := Lib.hid (blk_put HB2.out qq x)
    have HL3 : Hid ((l.set qq x).length = n) := Lib.hid (by rw [List.length_set]; exact HL2.out)
    have hst : Fr [g] w2 (w2.setCell ⟨g, qq, none⟩ (.int .u8 (x.toNat : Int))) := (Fr.refl [g] w2).setCell (by simp) _
    have HF3 : Hid (Fr [] w (w2.setCell ⟨g, qq, none⟩ (.int .u8 (x.toNat : Int)))) := Lib.hid (HF2.out.setCell (.inr hwg) _)
    have HZ3 := Lib.hid (HZ2.out.fr hst (by simp; omega))
    go_upto_region 5 with fail
    generalize w2.setCell ⟨g, qq, none⟩ _ = w3 at *
    generalize l.set qq x = l3 at *
    clear hst c1 f1 q0 q1 q2 q3 q4 q5 q6 q7 HB2 HL2 HF2 HZ2
    obtain ⟨q0, q1, q2, q3, q4, q5, q6, q7⟩ := blk8 HZ3.out
    rcases ht2.out with ⟨hx2, hx400⟩ | hx2 | ⟨hx2, hx400⟩
    · have h400 : (400 : Int) < n := by omega
      have k5 : (333 : Int) < n := by omega
      have c1 := blk_at HB3.out 333 (by rw [HL3.out]; omega)
      have f1 := HB3.out.frozen 333
      go_wp2_with fail
      (with_reducible refine (rsum_any w3 (some ⟨g, 0, none⟩) n n l3 HL3.out (rd_blk HB3.out) (by omega)).mono ?_)
      rintro e w13 ⟨rfl, rfl⟩
      obtain ⟨s, hs'⟩ : ∃ s : UInt8, (gsum l3 : Int) = (s.toNat : Int) := ⟨UInt8.ofNat (gsum l3), by have := gsum_lt l3; simp; omega⟩
      rw [hs']
      have HB4 := Lib.hid (blk_put HB3.out 333 s)
      have HL4 : Hid ((l3.set 333 s).length = n) := Lib.hid (by rw [List.length_set]; exact HL3.out)
      have hst : Fr [g] w3 (w3.setCell ⟨g, 333, none⟩ (.int .u8 (s.toNat : Int))) := (Fr.refl [g] w3).setCell (by simp) _
      have HF4 : Hid (Fr [] w (w3.setCell ⟨g, 333, none⟩ (.int .u8 (s.toNat : Int)))) := Lib.hid (HF3.out.setCell (.inr hwg) _)
      have HZ4 := Lib.hid (HZ3.out.fr hst (by simp; omega))
      clear hs'
      go_upto_region 7 with fail
      generalize w3.setCell ⟨g, 333, none⟩ _ = w4 at *
      generalize l3.set 333 s = l4 at *
      clear hst c1 f1 HB3 HL3 HF3 HZ3
      have HR4 := Lib.hid (rd_blk HB4.out)
      clear HB4 HZ4 q0 q1 q2 q3 q4 q5 q6 q7
      have HPa := Lib.hid (parse_any w4 (some ⟨g, 0, none⟩) n n l4 (HT.out.later HF4.out) HL4.out (Nat.le_refl _) HR4.out)
      have HRa : Hid (∀ W, Fr [] w4 W → Calls Tryd.prog 12 #[.slice (some ⟨g, 0, none⟩) n n] W (Outcome W l4)) := Lib.hid fun W hW => rparse_any W (some ⟨g, 0, none⟩) n n l4 HL4.out (Nat.le_refl _) (HR4.out.later hW (by simp))
      unfold Outcome at HPa HRa
      generalize (fault l4 : Int) = ft at *
      generalize ctOf l4 = ct at *
      go_wp2_with fail
      (with_reducible refine HPa.out.mono ?_)
      rintro e w14 ⟨v, rfl, hin, hf4⟩
      obtain ⟨P, cp, rfl, hP, -⟩ := hin
      obtain ⟨m, pl, r⟩ := ct
      simp only at hP ⊢
      obtain ⟨p1, hp1⟩ : ∃ p, pl.length = p := ⟨_, rfl⟩
      rw [hp1]
      have HP1 := Lib.hid hp1
      have HPP := Lib.hid hP
      have HF14 := Lib.hid hf4
      clear hf4 hP hp1 HPa
      go_upto_region 8 with fail
      obtain ⟨u1, hu1⟩ : ∃ u, w14.heap.size = u := ⟨_, rfl⟩
      have hb5 := Blk.fresh w14 30 #[.int .i64 (m : Int), .slice P p1 cp, .int .i64 (r : Int)]
      have hal : Fr [] w14 (w14.alloc (.cells #[.int .i64 (m : Int), .slice P p1 cp, .int .i64 (r : Int)] 30)) := (Fr.refl [] w14).alloc _
      rw [hu1] at hb5 ⊢
      have HB5 := Lib.hid hb5
      have HF15 := Lib.hid (HF14.out.tr hal)
      have HP5 := Lib.hid (HPP.out.later hal (by simp))
      clear hb5 hal HF14 HPP
      generalize w14.alloc _ = w15 at *
      have HRb := Lib.hid (HRa.out w15 HF15.out)
      clear HRa
      go_wp2_with fail
      (with_reducible refine HRb.out.mono ?_)
      rintro e w16 ⟨v, rfl, hin, hf6⟩
      obtain ⟨P', cp', rfl, hP', -⟩ := hin
      simp only at hP' ⊢
      rw [HP1.out]
      have HF16 := Lib.hid (HF15.out.tr hf6)
      have HB6 := Lib.hid (HB5.out.fr hf6 (by simp))
      have HP6 := Lib.hid (HP5.out.later hf6 (by simp))
      have HPP := Lib.hid hP'
      clear hf6 hP' HF15 HB5 HP5 HRb
      go_upto_region 9 with fail
      obtain ⟨u2, hu2⟩ : ∃ u, w16.heap.size = u := ⟨_, rfl⟩
      have hb7 := Blk.fresh w16 34 #[.int .i64 (m : Int), .slice P' p1 cp', .int .i64 (r : Int)]
      have hal : Fr [] w16 (w16.alloc (.cells #[.int .i64 (m : Int), .slice P' p1 cp', .int .i64 (r : Int)] 34)) := (Fr.refl [] w16).alloc _
      rw [hu2] at hb7 ⊢
      have hb5 := HB6.out.fr hal (by simp)
      have HF17 := Lib.hid (HF16.out.tr hal)
      have HK := Lib.hid (HP6.out.later hal (by simp))
      have HK3 := Lib.hid (HPP.out.later hal (by simp))
      clear hal HF16 HB6 HP6 HPP
      generalize w16.alloc _ = w17 at *
      obtain ⟨d0, d1, d2⟩ := blk3 hb5
      obtain ⟨e0, e1, e2⟩ := blk3 hb7
      have HS := Lib.hid (same_cart 0 0 w17 (.agg #[.int .i64 (m : Int), .slice P p1 cp, .int .i64 (r : Int)]) (.agg #[.int .i64 (m : Int), .slice P' p1 cp', .int .i64 (r : Int)]) ⟨m, pl, r⟩ ⟨P, cp, by rw [← HP1.out], HK.out, fun _ _ => Nat.zero_le _⟩ ⟨P', cp', by rw [← HP1.out], HK3.out, fun _ _ => Nat.zero_le _⟩)
      clear hb5 hb7 HK HK3
      go_wp2_with fail
      (with_reducible refine HS.out.mono ?_)
      rintro e w18 ⟨rfl, hf8⟩
      have HF18 : Hid (Fr [] w w18) := Lib.hid (HF4.out.tr (HF17.out.tr hf8))
      clear hf8 d0 d1 d2 e0 e1 e2
      go_wp2
      go_ret
      exact ⟨by rfl, HF18.out.below (by simp) (Nat.le_refl _)⟩
    · go_upto_region 7 with fail
      have HB4 := HB3
      have HL4 := HL3
      have HF4 := HF3
      have HZ4 := HZ3
      clear HB3 HL3 HF3 HZ3
      obtain ⟨w4, rfl⟩ : ∃ x, x = w3 := ⟨_, rfl⟩
      obtain ⟨l4, rfl⟩ : ∃ x, x = l3 := ⟨_, rfl⟩
      have HR4 := Lib.hid (rd_blk HB4.out)
      clear HB4 HZ4 q0 q1 q2 q3 q4 q5 q6 q7
      have HPa := Lib.hid (parse_any w4 (some ⟨g, 0, none⟩) n n l4 (HT.out.later HF4.out) HL4.out (Nat.le_refl _) HR4.out)
      have HRa : Hid (∀ W, Fr [] w4 W → Calls Tryd.prog 12 #[.slice (some ⟨g, 0, none⟩) n n] W (Outcome W l4)) := Lib.hid fun W hW => rparse_any W (some ⟨g, 0, none⟩) n n l4 HL4.out (Nat.le_refl _) (HR4.out.later hW (by simp))
      unfold Outcome at HPa HRa
      generalize (fault l4 : Int) = ft at *
      generalize ctOf l4 = ct at *
      go_wp2_with fail
      (with_reducible refine HPa.out.mono ?_)
      rintro e w14 ⟨v, rfl, hin, hf4⟩
      obtain ⟨P, cp, rfl, hP, -⟩ := hin
      obtain ⟨m, pl, r⟩ := ct
      simp only at hP ⊢
      obtain ⟨p1, hp1⟩ : ∃ p, pl.length = p := ⟨_, rfl⟩
      rw [hp1]
      have HP1 := Lib.hid hp1
      have HPP := Lib.hid hP
      have HF14 := Lib.hid hf4
      clear hf4 hP hp1 HPa
      go_upto_region 8 with fail
      obtain ⟨u1, hu1⟩ : ∃ u, w14.heap.size = u := ⟨_, rfl⟩
      have hb5 := Blk.fresh w14 30 #[.int .i64 (m : Int), .slice P p1 cp, .int .i64 (r : Int)]
      have hal : Fr [] w14 (w14.alloc (.cells #[.int .i64 (m : Int), .slice P p1 cp, .int .i64 (r : Int)] 30)) := (Fr.refl [] w14).alloc _
      rw [hu1] at hb5 ⊢
      have HB5 := Lib.hid hb5
      have HF15 := Lib.hid (HF14.out.tr hal)
      have HP5 := Lib.hid (HPP.out.later hal (by simp))
      clear hb5 hal HF14 HPP
      generalize w14.alloc _ = w15 at *
      have HRb := Lib.hid (HRa.out w15 HF15.out)
      clear HRa
      go_wp2_with fail
      (with_reducible refine HRb.out.mono ?_)
      rintro e w16 ⟨v, rfl, hin, hf6⟩
      obtain ⟨P', cp', rfl, hP', -⟩ := hin
      simp only at hP' ⊢
      rw [HP1.out]
      have HF16 := Lib.hid (HF15.out.tr hf6)
      have HB6 := Lib.hid (HB5.out.fr hf6 (by simp))
      have HP6 := Lib.hid (HP5.out.later hf6 (by simp))
      have HPP := Lib.hid hP'
      clear hf6 hP' HF15 HB5 HP5 HRb
      go_upto_region 9 with fail
      obtain ⟨u2, hu2⟩ : ∃ u, w16.heap.size = u := ⟨_, rfl⟩
      have hb7 := Blk.fresh w16 34 #[.int .i64 (m : Int), .slice P' p1 cp', .int .i64 (r : Int)]
      have hal : Fr [] w16 (w16.alloc (.cells #[.int .i64 (m : Int), .slice P' p1 cp', .int .i64 (r : Int)] 34)) := (Fr.refl [] w16).alloc _
      rw [hu2] at hb7 ⊢
      have hb5 := HB6.out.fr hal (by simp)
      have HF17 := Lib.hid (HF16.out.tr hal)
      have HK := Lib.hid (HP6.out.later hal (by simp))
      have HK3 := Lib.hid (HPP.out.later hal (by simp))
      clear hal HF16 HB6 HP6 HPP
      generalize w16.alloc _ = w17 at *
      obtain ⟨d0, d1, d2⟩ := blk3 hb5
      obtain ⟨e0, e1, e2⟩ := blk3 hb7
      have HS := Lib.hid (same_cart 0 0 w17 (.agg #[.int .i64 (m : Int), .slice P p1 cp, .int .i64 (r : Int)]) (.agg #[.int .i64 (m : Int), .slice P' p1 cp', .int .i64 (r : Int)]) ⟨m, pl, r⟩ ⟨P, cp, by rw [← HP1.out], HK.out, fun _ _ => Nat.zero_le _⟩ ⟨P', cp', by rw [← HP1.out], HK3.out, fun _ _ => Nat.zero_le _⟩)
      clear hb5 hb7 HK HK3
      go_wp2_with fail
      (with_reducible refine HS.out.mono ?_)
      rintro e w18 ⟨rfl, hf8⟩
      have HF18 : Hid (Fr [] w w18) := Lib.hid (HF4.out.tr (HF17.out.tr hf8))
      clear hf8 d0 d1 d2 e0 e1 e2
      go_wp2
      go_ret
      exact ⟨by rfl, HF18.out.below (by simp) (Nat.le_refl _)⟩
    · exact absurd hy400 hx400
  · go_upto_region 5 with fail
    have HB3 := HB2
    have HL3 := HL2
    have HF3 := HF2
    have HZ3 := HZ2
    clear HB2 HL2 HF2 HZ2
    obtain ⟨w3, rfl⟩ : ∃ x, x = w2 := ⟨_, rfl⟩
    obtain ⟨l3, rfl⟩ : ∃ x, x = l := ⟨_, rfl⟩
    rcases ht2.out with ⟨hx2, hx400⟩ | hx2 | ⟨hx2, hx400⟩
    · have h400 : (400 : Int) < n := by omega
      have k5 : (333 : Int) < n := by omega
      have c1 := blk_at HB3.out 333 (by rw [HL3.out]; omega)
      have f1 := HB3.out.frozen 333
      go_wp2_with fail
      (with_reducible refine (rsum_any w3 (some ⟨g, 0, none⟩) n n l3 HL3.out (rd_blk HB3.out) (by omega)).mono ?_)
      rintro e w13 ⟨rfl, rfl⟩
      obtain ⟨s, hs'⟩ : ∃ s : UInt8, (gsum l3 : Int) = (s.toNat : Int) := ⟨UInt8.ofNat (gsum l3), by have := gsum_lt l3; simp; omega⟩
      rw [hs']
      have HB4 := Lib.hid (blk_put HB3.out 333 s)
      have HL4 : Hid ((l3.set 333 s).length = n) := Lib.hid (by rw [List.length_set]; exact HL3.out)
      have hst : Fr [g] w3 (w3.setCell ⟨g, 333, none⟩ (.int .u8 (s.toNat : Int))) := (Fr.refl [g] w3).setCell (by simp) _
      have HF4 : Hid (Fr [] w (w3.setCell ⟨g, 333, none⟩ (.int .u8 (s.toNat : Int)))) := Lib.hid (HF3.out.setCell (.inr hwg) _)
      have HZ4 := Lib.hid (HZ3.out.fr hst (by simp; omega))
      clear hs'
      go_upto_region 7 with fail
      generalize w3.setCell ⟨g, 333, none⟩ _ = w4 at *
      generalize l3.set 333 s = l4 at *
      clear hst c1 f1 HB3 HL3 HF3 HZ3
      have HR4 := Lib.hid (rd_blk HB4.out)
      clear HB4 HZ4 q0 q1 q2 q3 q4 q5 q6 q7
      have HPa := Lib.hid (parse_any w4 (some ⟨g, 0, none⟩) n n l4 (HT.out.later HF4.out) HL4.out (Nat.le_refl _) HR4.out)
      have HRa : Hid (∀ W, Fr [] w4 W → Calls Tryd.prog 12 #[.slice (some ⟨g, 0, none⟩) n n] W (Outcome W l4)) := Lib.hid fun W hW => rparse_any W (some ⟨g, 0, none⟩) n n l4 HL4.out (Nat.le_refl _) (HR4.out.later hW (by simp))
      unfold Outcome at HPa HRa
      generalize (fault l4 : Int) = ft at *
      generalize ctOf l4 = ct at *
      go_wp2_with fail
      (with_reducible refine HPa.out.mono ?_)
      rintro e w14 ⟨v, rfl, hin, hf4⟩
      obtain ⟨P, cp, rfl, hP, -⟩ := hin
      obtain ⟨m, pl, r⟩ := ct
      simp only at hP ⊢
      obtain ⟨p1, hp1⟩ : ∃ p, pl.length = p := ⟨_, rfl⟩
      rw [hp1]
      have HP1 := Lib.hid hp1
      have HPP := Lib.hid hP
      have HF14 := Lib.hid hf4
      clear hf4 hP hp1 HPa
      go_upto_region 8 with fail
      obtain ⟨u1, hu1⟩ : ∃ u, w14.heap.size = u := ⟨_, rfl⟩
      have hb5 := Blk.fresh w14 30 #[.int .i64 (m : Int), .slice P p1 cp, .int .i64 (r : Int)]
      have hal : Fr [] w14 (w14.alloc (.cells #[.int .i64 (m : Int), .slice P p1 cp, .int .i64 (r : Int)] 30)) := (Fr.refl [] w14).alloc _
      rw [hu1] at hb5 ⊢
      have HB5 := Lib.hid hb5
      have HF15 := Lib.hid (HF14.out.tr hal)
      have HP5 := Lib.hid (HPP.out.later hal (by simp))
      clear hb5 hal HF14 HPP
      generalize w14.alloc _ = w15 at *
      have HRb := Lib.hid (HRa.out w15 HF15.out)
      clear HRa
      go_wp2_with fail
      (with_reducible refine HRb.out.mono ?_)
      rintro e w16 ⟨v, rfl, hin, hf6⟩
      obtain ⟨P', cp', rfl, hP', -⟩ := hin
      simp only at hP' ⊢
      rw [HP1.out]
      have HF16 := Lib.hid (HF15.out.tr hf6)
      have HB6 := Lib.hid (HB5.out.fr hf6 (by simp))
      have HP6 := Lib.hid (HP5.out.later hf6 (by simp))
      have HPP := Lib.hid hP'
      clear hf6 hP' HF15 HB5 HP5 HRb
      go_upto_region 9 with fail
      obtain ⟨u2, hu2⟩ : ∃ u, w16.heap.size = u := ⟨_, rfl⟩
      have hb7 := Blk.fresh w16 34 #[.int .i64 (m : Int), .slice P' p1 cp', .int .i64 (r : Int)]
      have hal : Fr [] w16 (w16.alloc (.cells #[.int .i64 (m : Int), .slice P' p1 cp', .int .i64 (r : Int)] 34)) := (Fr.refl [] w16).alloc _
      rw [hu2] at hb7 ⊢
      have hb5 := HB6.out.fr hal (by simp)
      have HF17 := Lib.hid (HF16.out.tr hal)
      have HK := Lib.hid (HP6.out.later hal (by simp))
      have HK3 := Lib.hid (HPP.out.later hal (by simp))
      clear hal HF16 HB6 HP6 HPP
      generalize w16.alloc _ = w17 at *
      obtain ⟨d0, d1, d2⟩ := blk3 hb5
      obtain ⟨e0, e1, e2⟩ := blk3 hb7
      have HS := Lib.hid (same_cart 0 0 w17 (.agg #[.int .i64 (m : Int), .slice P p1 cp, .int .i64 (r : Int)]) (.agg #[.int .i64 (m : Int), .slice P' p1 cp', .int .i64 (r : Int)]) ⟨m, pl, r⟩ ⟨P, cp, by rw [← HP1.out], HK.out, fun _ _ => Nat.zero_le _⟩ ⟨P', cp', by rw [← HP1.out], HK3.out, fun _ _ => Nat.zero_le _⟩)
      clear hb5 hb7 HK HK3
      go_wp2_with fail
      (with_reducible refine HS.out.mono ?_)
      rintro e w18 ⟨rfl, hf8⟩
      have HF18 : Hid (Fr [] w w18) := Lib.hid (HF4.out.tr (HF17.out.tr hf8))
      clear hf8 d0 d1 d2 e0 e1 e2
      go_wp2
      go_ret
      exact ⟨by rfl, HF18.out.below (by simp) (Nat.le_refl _)⟩
    · go_upto_region 7 with fail
      have HB4 := HB3
      have HL4 := HL3
      have HF4 := HF3
      have HZ4 := HZ3
      clear HB3 HL3 HF3 HZ3
      obtain ⟨w4, rfl⟩ : ∃ x, x = w3 := ⟨_, rfl⟩
      obtain ⟨l4, rfl⟩ : ∃ x, x = l3 := ⟨_, rfl⟩
      have HR4 := Lib.hid (rd_blk HB4.out)
      clear HB4 HZ4 q0 q1 q2 q3 q4 q5 q6 q7
      have HPa := Lib.hid (parse_any w4 (some ⟨g, 0, none⟩) n n l4 (HT.out.later HF4.out) HL4.out (Nat.le_refl _) HR4.out)
      have HRa : Hid (∀ W, Fr [] w4 W → Calls Tryd.prog 12 #[.slice (some ⟨g, 0, none⟩) n n] W (Outcome W l4)) := Lib.hid fun W hW => rparse_any W (some ⟨g, 0, none⟩) n n l4 HL4.out (Nat.le_refl _) (HR4.out.later hW (by simp))
      unfold Outcome at HPa HRa
      generalize (fault l4 : Int) = ft at *
      generalize ctOf l4 = ct at *
      go_wp2_with fail
      (with_reducible refine HPa.out.mono ?_)
      rintro e w14 ⟨v, rfl, hin, hf4⟩
      obtain ⟨P, cp, rfl, hP, -⟩ := hin
      obtain ⟨m, pl, r⟩ := ct
      simp only at hP ⊢
      obtain ⟨p1, hp1⟩ : ∃ p, pl.length = p := ⟨_, rfl⟩
      rw [hp1]
      have HP1 := Lib.hid hp1
      have HPP := Lib.hid hP
      have HF14 := Lib.hid hf4
      clear hf4 hP hp1 HPa
      go_upto_region 8 with fail
      obtain ⟨u1, hu1⟩ : ∃ u, w14.heap.size = u := ⟨_, rfl⟩
      have hb5 := Blk.fresh w14 30 #[.int .i64 (m : Int), .slice P p1 cp, .int .i64 (r : Int)]
      have hal : Fr [] w14 (w14.alloc (.cells #[.int .i64 (m : Int), .slice P p1 cp, .int .i64 (r : Int)] 30)) := (Fr.refl [] w14).alloc _
      rw [hu1] at hb5 ⊢
      have HB5 := Lib.hid hb5
      have HF15 := Lib.hid (HF14.out.tr hal)
      have HP5 := Lib.hid (HPP.out.later hal (by simp))
      clear hb5 hal HF14 HPP
      generalize w14.alloc _ = w15 at *
      have HRb := Lib.hid (HRa.out w15 HF15.out)
      clear HRa
      go_wp2_with fail
      (with_reducible refine HRb.out.mono ?_)
      rintro e w16 ⟨v, rfl, hin, hf6⟩
      obtain ⟨P', cp', rfl, hP', -⟩ := hin
      simp only at hP' ⊢
      rw [HP1.out]
      have HF16 := Lib.hid (HF15.out.tr hf6)
      have HB6 := Lib.hid (HB5.out.fr hf6 (by simp))
      have HP6 := Lib.hid (HP5.out.later hf6 (by simp))
      have HPP := Lib.hid hP'
      clear hf6 hP' HF15 HB5 HP5 HRb
      go_upto_region 9 with fail
      obtain ⟨u2, hu2⟩ : ∃ u, w16.heap.size = u := ⟨_, rfl⟩
      have hb7 := Blk.fresh w16 34 #[.int .i64 (m : Int), .slice P' p1 cp', .int .i64 (r : Int)]
      have hal : Fr [] w16 (w16.alloc (.cells #[.int .i64 (m : Int), .slice P' p1 cp', .int .i64 (r : Int)] 34)) := (Fr.refl [] w16).alloc _
      rw [hu2] at hb7 ⊢
      have hb5 := HB6.out.fr hal (by simp)
      have HF17 := Lib.hid (HF16.out.tr hal)
      have HK := Lib.hid (HP6.out.later hal (by simp))
      have HK3 := Lib.hid (HPP.out.later hal (by simp))
      clear hal HF16 HB6 HP6 HPP
      generalize w16.alloc _ = w17 at *
      obtain ⟨d0, d1, d2⟩ := blk3 hb5
      obtain ⟨e0, e1, e2⟩ := blk3 hb7
      have HS := Lib.hid (same_cart 0 0 w17 (.agg #[.int .i64 (m : Int), .slice P p1 cp, .int .i64 (r : Int)]) (.agg #[.int .i64 (m : Int), .slice P' p1 cp', .int .i64 (r : Int)]) ⟨m, pl, r⟩ ⟨P, cp, by rw [← HP1.out], HK.out, fun _ _ => Nat.zero_le _⟩ ⟨P', cp', by rw [← HP1.out], HK3.out, fun _ _ => Nat.zero_le _⟩)
      clear hb5 hb7 HK HK3
      go_wp2_with fail
      (with_reducible refine HS.out.mono ?_)
      rintro e w18 ⟨rfl, hf8⟩
      have HF18 : Hid (Fr [] w w18) := Lib.hid (HF4.out.tr (HF17.out.tr hf8))
      clear hf8 d0 d1 d2 e0 e1 e2
      go_wp2
      go_ret
      exact ⟨by rfl, HF18.out.below (by simp) (Nat.le_refl _)⟩
    · have hv400 : decide ((400 : Int) < n) = false := by simp; omega
      go_upto_region 7 with fail
      have HB4 := HB3
      have HL4 := HL3
      have HF4 := HF3
      have HZ4 := HZ3
      clear HB3 HL3 HF3 HZ3
      obtain ⟨w4, rfl⟩ : ∃ x, x = w3 := ⟨_, rfl⟩
      obtain ⟨l4, rfl⟩ : ∃ x, x = l3 := ⟨_, rfl⟩
      have HR4 := Lib.hid (rd_blk HB4.out)
      clear HB4 HZ4 q0 q1 q2 q3 q4 q5 q6 q7
      have HPa := Lib.hid (parse_any w4 (some ⟨g, 0, none⟩) n n l4 (HT.out.later HF4.out) HL4.out (Nat.le_refl _) HR4.out)
      have HRa : Hid (∀ W, Fr [] w4 W → Calls Tryd.prog 12 #[.slice (some ⟨g, 0, none⟩) n n] W (Outcome W l4)) := Lib.hid fun W hW => rparse_any W (some ⟨g, 0, none⟩) n n l4 HL4.out (Nat.le_refl _) (HR4.out.later hW (by simp))
      unfold Outcome at HPa HRa
      generalize (fault l4 : Int) = ft at *
      generalize ctOf l4 = ct at *
      go_wp2_with fail
      (with_reducible refine HPa.out.mono ?_)
      rintro e w14 ⟨v, rfl, hin, hf4⟩
      obtain ⟨P, cp, rfl, hP, -⟩ := hin
      obtain ⟨m, pl, r⟩ := ct
      simp only at hP ⊢
      obtain ⟨p1, hp1⟩ : ∃ p, pl.length = p := ⟨_, rfl⟩
      rw [hp1]
      have HP1 := Lib.hid hp1
      have HPP := Lib.hid hP
      have HF14 := Lib.hid hf4
      clear hf4 hP hp1 HPa
      go_upto_region 8 with fail
      obtain ⟨u1, hu1⟩ : ∃ u, w14.heap.size = u := ⟨_, rfl⟩
      have hb5 := Blk.fresh w14 30 #[.int .i64 (m : Int), .slice P p1 cp, .int .i64 (r : Int)]
      have hal : Fr [] w14 (w14.alloc (.cells #[.int .i64 (m : Int), .slice P p1 cp, .int .i64 (r : Int)] 30)) := (Fr.refl [] w14).alloc _
      rw [hu1] at hb5 ⊢
      have HB5 := Lib.hid hb5
      have HF15 := Lib.hid (HF14.out.tr hal)
      have HP5 := Lib.hid (HPP.out.later hal (by simp))
      clear hb5 hal HF14 HPP
      generalize w14.alloc _ = w15 at *
      have HRb := Lib.hid (HRa.out w15 HF15.out)
      clear HRa
      go_wp2_with fail
      (with_reducible refine HRb.out.mono ?_)
      rintro e w16 ⟨v, rfl, hin, hf6⟩
      obtain ⟨P', cp', rfl, hP', -⟩ := hin
      simp only at hP' ⊢
      rw [HP1.out]
      have HF16 := Lib.hid (HF15.out.tr hf6)
      have HB6 := Lib.hid (HB5.out.fr hf6 (by simp))
      have HP6 := Lib.hid (HP5.out.later hf6 (by simp))
      have HPP := Lib.hid hP'
      clear hf6 hP' HF15 HB5 HP5 HRb
      go_upto_region 9 with fail
      obtain ⟨u2, hu2⟩ : ∃ u, w16.heap.size = u := ⟨_, rfl⟩
      have hb7 := Blk.fresh w16 34 #[.int .i64 (m : Int), .slice P' p1 cp', .int .i64 (r : Int)]
      have hal : Fr [] w16 (w16.alloc (.cells #[.int .i64 (m : Int), .slice P' p1 cp', .int .i64 (r : Int)] 34)) := (Fr.refl [] w16).alloc _
      rw [hu2] at hb7 ⊢
      have hb5 := HB6.out.fr hal (by simp)
      have HF17 := Lib.hid (HF16.out.tr hal)
      have HK := Lib.hid (HP6.out.later hal (by simp))
      have HK3 := Lib.hid (HPP.out.later hal (by simp))
      clear hal HF16 HB6 HP6 HPP
      generalize w16.alloc _ = w17 at *
      obtain ⟨d0, d1, d2⟩ := blk3 hb5
      obtain ⟨e0, e1, e2⟩ := blk3 hb7
      have HS := Lib.hid (same_cart 0 0 w17 (.agg #[.int .i64 (m : Int), .slice P p1 cp, .int .i64 (r : Int)]) (.agg #[.int .i64 (m : Int), .slice P' p1 cp', .int .i64 (r : Int)]) ⟨m, pl, r⟩ ⟨P, cp, by rw [← HP1.out], HK.out, fun _ _ => Nat.zero_le _⟩ ⟨P', cp', by rw [← HP1.out], HK3.out, fun _ _ => Nat.zero_le _⟩)
      clear hb5 hb7 HK HK3
      go_wp2_with fail
      (with_reducible refine HS.out.mono ?_)
      rintro e w18 ⟨rfl, hf8⟩
      have HF18 : Hid (Fr [] w w18) := Lib.hid (HF4.out.tr (HF17.out.tr hf8))
      clear hf8 d0 d1 d2 e0 e1 e2
      go_wp2
      go_ret
      exact ⟨by rfl, HF18.out.below (by simp) (Nat.le_refl _)⟩
  · have hv400 : decide ((400 : Int) < n) = false := by simp; omega
    go_upto_region 5 with fail
    have HB3 := HB2
    have HL3 := HL2
    have HF3 := HF2
    have HZ3 := HZ2
    clear HB2 HL2 HF2 HZ2
    obtain ⟨w3, rfl⟩ : ∃ x, x = w2 := ⟨_, rfl⟩
    obtain ⟨l3, rfl⟩ : ∃ x, x = l := ⟨_, rfl⟩
    rcases ht2.out with ⟨hx2, hx400⟩ | hx2 | ⟨hx2, hx400⟩
    · exact absurd hx400 hy400
    · go_upto_region 7 with fail
      have HB4 := HB3
      have HL4 := HL3
      have HF4 := HF3
      have HZ4 := HZ3
      clear HB3 HL3 HF3 HZ3
      obtain ⟨w4, rfl⟩ : ∃ x, x = w3 := ⟨_, rfl⟩
      obtain ⟨l4, rfl⟩ : ∃ x, x = l3 := ⟨_, rfl⟩
      have HR4 := Lib.hid (rd_blk HB4.out)
      clear HB4 HZ4 q0 q1 q2 q3 q4 q5 q6 q7
      have HPa := Lib.hid (parse_any w4 (some ⟨g, 0, none⟩) n n l4 (HT.out.later HF4.out) HL4.out (Nat.le_refl _) HR4.out)
      have HRa : Hid (∀ W, Fr [] w4 W → Calls Tryd.prog 12 #[.slice (some ⟨g, 0, none⟩) n n] W (Outcome W l4)) := Lib.hid fun W hW => rparse_any W (some ⟨g, 0, none⟩) n n l4 HL4.out (Nat.le_refl _) (HR4.out.later hW (by simp))
      unfold Outcome at HPa HRa
      generalize (fault l4 : Int) = ft at *
      generalize ctOf l4 = ct at *
      go_wp2_with fail
      (with_reducible refine HPa.out.mono ?_)
      rintro e w14 ⟨v, rfl, hin, hf4⟩
      obtain ⟨P, cp, rfl, hP, -⟩ := hin
      obtain ⟨m, pl, r⟩ := ct
      simp only at hP ⊢
      obtain ⟨p1, hp1⟩ : ∃ p, pl.length = p := ⟨_, rfl⟩
      rw [hp1]
      have HP1 := Lib.hid hp1
      have HPP := Lib.hid hP
      have HF14 := Lib.hid hf4
      clear hf4 hP hp1 HPa
      go_upto_region 8 with fail
      obtain ⟨u1, hu1⟩ : ∃ u, w14.heap.size = u := ⟨_, rfl⟩
      have hb5 := Blk.fresh w14 30 #[.int .i64 (m : Int), .slice P p1 cp, .int .i64 (r : Int)]
      have hal : Fr [] w14 (w14.alloc (.cells #[.int .i64 (m : Int), .slice P p1 cp, .int .i64 (r : Int)] 30)) := (Fr.refl [] w14).alloc _
      rw [hu1] at hb5 ⊢
      have HB5 := Lib.hid hb5
      have HF15 := Lib.hid (HF14.out.tr hal)
      have HP5 := Lib.hid (HPP.out.later hal (by simp))
      clear hb5 hal HF14 HPP
      generalize w14.alloc _ = w15 at *
      have HRb := Lib.hid (HRa.out w15 HF15.out)
      clear HRa
      go_wp2_with fail
      (with_reducible refine HRb.out.mono ?_)
      rintro e w16 ⟨v, rfl, hin, hf6⟩
      obtain ⟨P', cp', rfl, hP', -⟩ := hin
      simp only at hP' ⊢
      rw [HP1.out]
      have HF16 := Lib.hid (HF15.out.tr hf6)
      have HB6 := Lib.hid (HB5.out.fr hf6 (by simp))
      have HP6 := Lib.hid (HP5.out.later hf6 (by simp))
      have HPP := Lib.hid hP'
      clear hf6 hP' HF15 HB5 HP5 HRb
      go_upto_region 9 with fail
      obtain ⟨u2, hu2⟩ : ∃ u, w16.heap.size = u := ⟨_, rfl⟩
      have hb7 := Blk.fresh w16 34 #[.int .i64 (m : Int), .slice P' p1 cp', .int .i64 (r : Int)]
      have hal : Fr [] w16 (w16.alloc (.cells #[.int .i64 (m : Int), .slice P' p1 cp', .int .i64 (r : Int)] 34)) := (Fr.refl [] w16).alloc _
      rw [hu2] at hb7 ⊢
      have hb5 := HB6.out.fr hal (by simp)
      have HF17 := Lib.hid (HF16.out.tr hal)
      have HK := Lib.hid (HP6.out.later hal (by simp))
      have HK3 := Lib.hid (HPP.out.later hal (by simp))
      clear hal HF16 HB6 HP6 HPP
      generalize w16.alloc _ = w17 at *
      obtain ⟨d0, d1, d2⟩ := blk3 hb5
      obtain ⟨e0, e1, e2⟩ := blk3 hb7
      have HS := Lib.hid (same_cart 0 0 w17 (.agg #[.int .i64 (m : Int), .slice P p1 cp, .int .i64 (r : Int)]) (.agg #[.int .i64 (m : Int), .slice P' p1 cp', .int .i64 (r : Int)]) ⟨m, pl, r⟩ ⟨P, cp, by rw [← HP1.out], HK.out, fun _ _ => Nat.zero_le _⟩ ⟨P', cp', by rw [← HP1.out], HK3.out, fun _ _ => Nat.zero_le _⟩)
      clear hb5 hb7 HK HK3
      go_wp2_with fail
      (with_reducible refine HS.out.mono ?_)
      rintro e w18 ⟨rfl, hf8⟩
      have HF18 : Hid (Fr [] w w18) := Lib.hid (HF4.out.tr (HF17.out.tr hf8))
      clear hf8 d0 d1 d2 e0 e1 e2
      go_wp2
      go_ret
      exact ⟨by rfl, HF18.out.below (by simp) (Nat.le_refl _)⟩
    · have hv400 : decide ((400 : Int) < n) = false := by simp; omega
      go_upto_region 7 with fail
      have HB4 := HB3
      have HL4 := HL3
      have HF4 := HF3
      have HZ4 := HZ3
      clear HB3 HL3 HF3 HZ3
      obtain ⟨w4, rfl⟩ : ∃ x, x = w3 := ⟨_, rfl⟩
      obtain ⟨l4, rfl⟩ : ∃ x, x = l3 := ⟨_, rfl⟩
      have HR4 := Lib.hid (rd_blk HB4.out)
      clear HB4 HZ4 q0 q1 q2 q3 q4 q5 q6 q7
      have HPa := Lib.hid (parse_any w4 (some ⟨g, 0, none⟩) n n l4 (HT.out.later HF4.out) HL4.out (Nat.le_refl _) HR4.out)
      have HRa : Hid (∀ W, Fr [] w4 W → Calls Tryd.prog 12 #[.slice (some ⟨g, 0, none⟩) n n] W (Outcome W l4)) := Lib.hid fun W hW => rparse_any W (some ⟨g, 0, none⟩) n n l4 HL4.out (Nat.le_refl _) (HR4.out.later hW (by simp))
      unfold Outcome at HPa HRa
      generalize (fault l4 : Int) = ft at *
      generalize ctOf l4 = ct at *
      go_wp2_with fail
      (with_reducible refine HPa.out.mono ?_)
      rintro e w14 ⟨v, rfl, hin, hf4⟩
      obtain ⟨P, cp, rfl, hP, -⟩ := hin
      obtain ⟨m, pl, r⟩ := ct
      simp only at hP ⊢
      obtain ⟨p1, hp1⟩ : ∃ p, pl.length = p := ⟨_, rfl⟩
      rw [hp1]
      have HP1 := Lib.hid hp1
      have HPP := Lib.hid hP
      have HF14 := Lib.hid hf4
      clear hf4 hP hp1 HPa
      go_upto_region 8 with fail
      obtain ⟨u1, hu1⟩ : ∃ u, w14.heap.size = u := ⟨_, rfl⟩
      have hb5 := Blk.fresh w14 30 #[.int .i64 (m : Int), .slice P p1 cp, .int .i64 (r : Int)]
      have hal : Fr [] w14 (w14.alloc (.cells #[.int .i64 (m : Int), .slice P p1 cp, .int .i64 (r : Int)] 30)) := (Fr.refl [] w14).alloc _
      rw [hu1] at hb5 ⊢
      have HB5 := Lib.hid hb5
      have HF15 := Lib.hid (HF14.out.tr hal)
      have HP5 := Lib.hid (HPP.out.later hal (by simp))
      clear hb5 hal HF14 HPP
      generalize w14.alloc _ = w15 at *
      have HRb := Lib.hid (HRa.out w15 HF15.out)
      clear HRa
      go_wp2_with fail
      (with_reducible refine HRb.out.mono ?_)
      rintro e w16 ⟨v, rfl, hin, hf6⟩
      obtain ⟨P', cp', rfl, hP', -⟩ := hin
      simp only at hP' ⊢
      rw [HP1.out]
      have HF16 := Lib.hid (HF15.out.tr hf6)
      have HB6 := Lib.hid (HB5.out.fr hf6 (by simp))
      have HP6 := Lib.hid (HP5.out.later hf6 (by simp))
      have HPP := Lib.hid hP'
      clear hf6 hP' HF15 HB5 HP5 HRb
      go_upto_region 9 with fail
      obtain ⟨u2, hu2⟩ : ∃ u, w16.heap.size = u := ⟨_, rfl⟩
      have hb7 := Blk.fresh w16 34 #[.int .i64 (m : Int), .slice P' p1 cp', .int .i64 (r : Int)]
      have hal : Fr [] w16 (w16.alloc (.cells #[.int .i64 (m : Int), .slice P' p1 cp', .int .i64 (r : Int)] 34)) := (Fr.refl [] w16).alloc _
      rw [hu2] at hb7 ⊢
      have hb5 := HB6.out.fr hal (by simp)
      have HF17 := Lib.hid (HF16.out.tr hal)
      have HK := Lib.hid (HP6.out.later hal (by simp))
      have HK3 := Lib.hid (HPP.out.later hal (by simp))
      clear hal HF16 HB6 HP6 HPP
      generalize w16.alloc _ = w17 at *
      obtain ⟨d0, d1, d2⟩ := blk3 hb5
      obtain ⟨e0, e1, e2⟩ := blk3 hb7
      have HS := Lib.hid (same_cart 0 0 w17 (.agg #[.int .i64 (m : Int), .slice P p1 cp, .int .i64 (r : Int)]) (.agg #[.int .i64 (m : Int), .slice P' p1 cp', .int .i64 (r : Int)]) ⟨m, pl, r⟩ ⟨P, cp, by rw [← HP1.out], HK.out, fun _ _ => Nat.zero_le _⟩ ⟨P', cp', by rw [← HP1.out], HK3.out, fun _ _ => Nat.zero_le _⟩)
      clear hb5 hb7 HK HK3
      go_wp2_with fail
      (with_reducible refine HS.out.mono ?_)
      rintro e w18 ⟨rfl, hf8⟩
      have HF18 : Hid (Fr [] w w18) := Lib.hid (HF4.out.tr (HF17.out.tr hf8))
      clear hf8 d0 d1 d2 e0 e1 e2
      go_wp2
      go_ret
      exact ⟨by rfl, HF18.out.below (by simp) (Nat.le_refl _)⟩

end Gb
end Go.Proofs.YthomlnaabkfcpaaDoor
