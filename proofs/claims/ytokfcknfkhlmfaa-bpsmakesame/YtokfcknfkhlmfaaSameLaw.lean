/-
  picklocklaw08.BpsmakeSame returns true for every input: of two that are the same, of some bytes of the input that follow each other (if no four of it stand twice), and of one byte again and again, little is told. No condition.
-/
import Derived.Test.YtokfcknfkhlmfaaM3
import Derived.Test.YtokfcknfkhlmfaaM9
import Derived.Test.YtokfcknfkhlmfaaM8
import Derived.Test.YtokfcknfkhlmfaaM1
import Derived.Deep.DeepCutAuto
namespace Go.Proofs.Ytokfcknfkhlmfaa
open Go.RowKit
namespace Bm

/-- How many bytes a patch without meta has. -/
theorem pat_len2 (a b : List UInt8) (σ : S8) (k : Nat) (hk : SZ (σ.L ++ leftL b σ.told b.length) ≤ k) (ha : a.length ≤ 16511) (hb : b.length ≤ 16511) : (patO a b [] σ).whole.length ≤ 21 + k ∧ 0 < (patO a b [] σ).whole.length := by
  have h1 := putV_le2 ha
  have h2 := putV_le2 hb
  have h3 : (Var.putV ([] : List UInt8).length).length = 1 := by
    rw [List.length_nil, Var.putV_last (by decide)]
    rfl
  unfold SZ at hk
  unfold patO Bps.Pat.whole
  rw [Bps.whole_len]
  unfold Bps.inner
  simp only [List.length_append]
  rw [h3, List.length_nil]
  omega

theorem blk5 {w : World} {b : Nat} {x0 x1 x2 x3 x4 : Value} {t : TypeId} (h : Blk w b t #[x0, x1, x2, x3, x4]) : w.cell? ⟨b, 0, none⟩ = some x0 ∧ w.cell? ⟨b, 1, none⟩ = some x1 ∧ w.cell? ⟨b, 2, none⟩ = some x2 ∧ w.cell? ⟨b, 3, none⟩ = some x3 ∧ w.cell? ⟨b, 4, none⟩ = some x4 :=
  ⟨by rw [h.cell]; rfl, by rw [h.cell]; rfl, by rw [h.cell]; rfl, by rw [h.cell]; rfl, by rw [h.cell]; rfl⟩

set_option maxRecDepth 100000 in
set_option maxHeartbeats 4000000 in
theorem same_walk (a0 : Option Addr) (cap0 : Nat) (l : List UInt8) (y z : Int) (X : UInt8) (zn : Int) (w : World) (hr : Rd w a0 l) (hc : a0 = none → cap0 = 0) (hlc : l.length ≤ cap0) (_hcm : cap0 ≤ maxLen) :
    Calls Try.prog 5 #[.agg #[.slice a0 l.length cap0, .int .i64 y, .int .i64 z, .int .u8 (X.toNat : Int), .int .i64 zn]] w fun e w' => e = .returned (.bool true) ∧ Below w.heap.size w w' := by
  obtain ⟨i0, hi, hz0, hz1, hz2⟩ := info_parts info5
  have HR := Lib.hid hr
  have HC := Lib.hid hc
  have HL := Lib.hid (take_len l 400 (by omega))
  have hcnt : (min (l.length : Int) 400).toNat ≤ 400 := by omega
  unfold maxLen at _hcm
  obtain ⟨s, hs⟩ : ∃ s, w.heap.size = s := ⟨_, rfl⟩
  obtain ⟨w0, hw0⟩ : ∃ w0, w0 = w.alloc (.cells #[.slice a0 l.length cap0, .int .i64 y, .int .i64 z, .int .u8 (X.toNat : Int), .int .i64 zn] 43) := ⟨_, rfl⟩
  have HF0 : Hid (Fr [] w w0) := Lib.hid (by rw [hw0]; exact (Fr.refl [] w).alloc _)
  have HB0 : Hid (Blk w0 s 43 #[.slice a0 l.length cap0, .int .i64 y, .int .i64 z, .int .u8 (X.toNat : Int), .int .i64 zn]) := Lib.hid (by rw [hw0, ← hs]; exact Blk.fresh _ _ _)
  have HW0 := Lib.hid hw0
  clear hr hc hw0
  go_enter Try.func5, Try.ntmps5
  go_wp2_with fail
  rw [← HW0.out]
  refine (shown8 w0).mono ?_
  rintro e w1 ⟨rfl, hf1⟩
  have HF1 : Hid (Fr [] w w1) := Lib.hid (HF0.out.tr hf1)
  have HB1 := Lib.hid (HB0.out.fr hf1 (by simp))
  clear hf1 HF0 HB0 HW0
  have hal1 : Fr [] w1 (w1.alloc (.cells #[] 5)) := (Fr.refl [] w1).alloc _
  obtain ⟨x0, -, -, -, -⟩ := blk5 (HB1.out.fr hal1 (by simp))
  clear hal1
  go_wp2_with (at_builtin; refine wpList_app _ rfl (.tmp 16) (.tmp 23) 22 rfl w1.heap.size i0 Try.underlying22 hi hz0 hz1 hz2 (.slice (some ⟨w1.heap.size, 0, none⟩) 0 0) [] rfl (Own.empty w1 _ (Nat.le_refl _)) a0 _ cap0 (l.take (min (l.length : Int) 400).toNat) rfl HL.out (rd_take (HR.out.later (HF1.out.alloc _) (by simp)) _) HC.out (by simp; omega) (by simp) ?_)
  intro A1 c1 w2 ho2 hf2 hlies
  obtain ⟨g1, rfl⟩ := ho2.some_ hlies
  have HF2' : Hid (Fr [] w1 w2) := Lib.hid (((Fr.refl [] w1).alloc _).trans hf2 (by simp [Value.ownBlock]))
  have HF2 : Hid (Fr [] w w2) := Lib.hid (HF1.out.tr HF2'.out)
  have HB2 := Lib.hid (HB1.out.fr HF2'.out (by simp))
  have HM1 : Hid ((l.take (min (l.length : Int) 400).toNat).length = (min (l.length : Int) 400).toNat) := HL.out
  have HX : Hid (Rd w2 (some ⟨g1, 0, none⟩) (l.take (min (l.length : Int) 400).toNat)) := Lib.hid ho2.rd
  obtain ⟨hna1, hna2⟩ := ho2.caps
  clear ho2 hf2 HR HC HL hlc hlies HF2' HB1 x0 HF1
  generalize (min (l.length : Int) 400).toNat = n0 at *
  generalize l.take n0 = x at *
  obtain ⟨p, hp1, hp2⟩ := place_of y (n0 : Int) (by omega)
  obtain ⟨q, hq1, hq2⟩ := place_of z ((n0 : Int) - p) (by omega)
  obtain ⟨N0, hN, hN2⟩ := Mk.below_of zn 5000 (by omega)
  obtain ⟨N, hN1⟩ : ∃ N : Nat, 64 + (N0 : Int) = (N : Int) := ⟨64 + N0, by omega⟩
  obtain ⟨t, ht⟩ : ∃ t, p + q = t := ⟨_, rfl⟩
  have ht1 : (p : Int) + (q : Int) = (t : Int) := by omega
  have ht2 : (p : Int) ≤ t := by omega
  have ht3 : (t : Int) ≤ c1 := by omega
  have ht4 : p ≤ c1 := by omega
  have ht5 : t - p = q := by omega
  have ht6 : (0 : Int) ≤ p := by omega
  have ht7 : t ≤ c1 := by omega
  have ht8 : p ≤ t := by omega
  have ht9 : (p : Int) ≤ c1 := by omega
  obtain ⟨k0, hk0⟩ : ∃ k0, n0 + 1 = k0 := ⟨_, rfl⟩
  have hk1 : (n0 : Int) + 1 = (k0 : Int) := by omega
  have hk2 : IntKind.i64.wrap (k0 : Int) = (k0 : Int) := by rw [IntKind.wrap_i64]; omega
  have hk3 : ¬ (k0 : Int) = 0 := by omega
  obtain ⟨d, hd⟩ : ∃ d, n0 - p = d := ⟨_, rfl⟩
  have hd1 : (n0 : Int) - (p : Int) = (d : Int) := by omega
  have hd2 : IntKind.i64.wrap (d : Int) = (d : Int) := by rw [IntKind.wrap_i64]; omega
  obtain ⟨e, he⟩ : ∃ e, d + 1 = e := ⟨_, rfl⟩
  have he1 : (d : Int) + 1 = (e : Int) := by omega
  have he2 : IntKind.i64.wrap (e : Int) = (e : Int) := by rw [IntKind.wrap_i64]; omega
  have he3 : ¬ (e : Int) = 0 := by omega
  rw [hk1] at hp1
  rw [hd1, he1] at hq1
  have hp3 : IntKind.i64.wrap (p : Int) = (p : Int) := by rw [IntKind.wrap_i64]; omega
  have hq3 : IntKind.i64.wrap (q : Int) = (q : Int) := by rw [IntKind.wrap_i64]; omega
  have ht10 : IntKind.i64.wrap (t : Int) = (t : Int) := by rw [IntKind.wrap_i64]; omega
  have hN3 : IntKind.i64.wrap (N : Int) = (N : Int) := by rw [IntKind.wrap_i64]; omega
  have hN4 : IntKind.i64.wrap (N0 : Int) = (N0 : Int) := by rw [IntKind.wrap_i64]; omega
  have hN5 : 64 ≤ N := by omega
  have hN6 : N ≤ 5063 := by omega
  have hpq : p + q ≤ n0 := by omega
  generalize hA2 : (if c1 = p then some (⟨g1, 0, none⟩ : Addr) else some ⟨g1, p, none⟩) = A2
  have HRp : Hid (Rd w2 A2 ((x.drop p).take q)) := Lib.hid (by
    rw [← hA2]
    exact cut_rd HX.out (by rw [HM1.out]; omega) (by rw [HM1.out]; omega))
  have HLq : Hid (((x.drop p).take q).length = q) := Lib.hid (by rw [List.length_take, List.length_drop, HM1.out]; omega)
  have Ht := Lib.hid ht
  obtain ⟨-, x1, x2, -, x4⟩ := blk5 HB2.out
  clear ht hd he hk0
  go_wp2_with (at_make; refine Mk.wpList_makeB _ rfl _ _ 22 rfl w2.heap.size i0 Try.underlying22 hi hz0 hz1 hz2 _ _ N N rfl rfl (Nat.le_refl _) (by omega) (Nat.le_refl _) ?_)
  intro w3 ho3 hf3
  obtain ⟨g3, hg3⟩ : ∃ g3, w2.heap.size = g3 := ⟨_, rfl⟩
  rw [hg3] at ho3 ⊢
  have HO3 := Lib.hid ho3
  have HF3 := Lib.hid hf3
  have HG3 := Lib.hid hg3
  have HB3 := Lib.hid (HB2.out.fr hf3 (by simp))
  clear ho3 hf3 hg3 x1 x2 x4 hp1 hq1 hN hN1 hN2 hN3 hN4 ht1 ht2 ht3 ht4 ht5 ht6 ht7 ht8 ht9 ht10 hk1 hk2 hk3 hd1 hd2 he1 he2 he3 hp3 hq3
  go_wp2_with fail
  go_loopw [8] (fun s8 wr => ∃ (j : Nat) (ys : List UInt8), s8 = .int .i64 (j : Int) ∧ j ≤ N ∧ ys.length = N ∧ (∀ k, k < j → ys[k]? = some X) ∧ Own wr g3 (.slice (some ⟨g3, 0, none⟩) N N) ys ∧ Fr [] w2 wr) (fun s8 _ => N - (intOf s8).toNat)
  case atStart => exact ⟨0, _, rfl, Nat.zero_le _, List.length_replicate, fun k hk => by omega, HO3.out, HF3.out⟩
  case round =>
    obtain ⟨j, ys, rfl, hj, hyl, hyx, ho, hf⟩ := hrel
    have HO := Lib.hid ho
    have HYl := Lib.hid hyl
    have HYx := Lib.hid hyx
    have HF := Lib.hid hf
    clear ho hf hyl hyx HO3 HF3 HB3
    by_cases hlt : j < N
    · have hlt' : (j : Int) < N := by omega
      have hj0 : (0 : Int) ≤ j := by omega
      obtain ⟨-, -, -, x3, -⟩ := blk5 (HB2.out.fr HF.out (by simp))
      obtain ⟨g', e', -, hcells, hfz, hset⟩ := HO.out.head (by omega)
      cases e'
      obtain ⟨u, hu⟩ := hcells j (by omega)
      have hz := hfz j
      have HSet := Lib.hid (hset j X)
      clear hcells hfz hset
      go_wp2
      go_roundw
      case rel =>
        refine ⟨j + 1, _, by go_num, by omega, by rw [List.length_set, HYl.out], fun k hk => ?_, HSet.out, HF.out.trans ((Fr.refl [g3] wr).setCell (by simp) _) (by have := HG3.out; simp; omega)⟩
        by_cases hkj : k = j
        · subst hkj
          rw [List.getElem?_set_self (by rw [HYl.out]; omega)]
        · rw [List.getElem?_set_ne (by omega)]
          exact HYx.out k (by omega)
      case measure => simp [intOf]; omega
    · have hlt' : ¬ (j : Int) < N := by omega
      have HRep : Hid (ys = List.replicate N X) := Lib.hid (by
        apply List.ext_getElem?
        intro k
        by_cases hk : k < N
        · rw [HYx.out k (by omega), List.getElem?_replicate, if_pos hk]
        · rw [List.getElem?_eq_none (by rw [HYl.out]; omega), List.getElem?_eq_none (by rw [List.length_replicate]; omega)])
      rw [HRep.out] at HO
      have HRow : Hid (Rd wr (some ⟨g3, 0, none⟩) (List.replicate N X)) := Lib.hid HO.out.rd
      have HX4 := Lib.hid (HX.out.later HF.out (by simp))
      have HP4 := Lib.hid (HRp.out.later HF.out (by simp))
      have HF4 : Hid (Fr [] w wr) := Lib.hid (HF2.out.tr HF.out)
      have HRl : Hid ((List.replicate N X).length = N) := Lib.hid List.length_replicate
      clear HO HX HRp HF HF2 HB2 HYx HYl HRep HG3
      go_wp2_with fail
      refine (create_any _ (some ⟨g1, 0, none⟩) (some ⟨g1, 0, none⟩) none c1 c1 0 n0 n0 0 x x [] HM1.out HM1.out rfl hna1 hna1 (by omega) (by omega) (by omega) HX4.out HX4.out (rd_nil _) (fun _ => rfl)).mono ?_
      rintro e w5 ⟨σ1, R1, m1, hR, hu, hm, rfl, -, -, hf5⟩
      have hsz := same_SZ (by rw [HM1.out]; omega) (by rw [HM1.out]; omega) (fun h => big_same x (by rw [HM1.out]; omega) h) hR hu
      have hln := pat_len2 x x σ1 13 hsz (by rw [HM1.out]; omega) (by rw [HM1.out]; omega)
      rw [hm] at hln
      have hl1 : (m1 : Int) ≤ 40 := by omega
      have hl1' : (0 : Int) < m1 := by omega
      have HX5 := Lib.hid (HX4.out.later hf5 (by simp))
      have HP5 := Lib.hid (HP4.out.later hf5 (by simp))
      have HRow5 := Lib.hid (HRow.out.later hf5 (by simp))
      have HF5 := Lib.hid (HF4.out.tr hf5)
      clear hR hu hm hf5 HX4 HP4 HRow HF4 hsz hln
      go_wp2_with fail
      refine (create_any w5 (some ⟨g1, 0, none⟩) A2 none c1 (c1 - p) 0 n0 q 0 x ((x.drop p).take q) [] HM1.out HLq.out rfl hna1 (by omega) (by omega) (by omega) (by omega) HX5.out HP5.out (rd_nil _) (fun _ => rfl)).mono ?_
      rintro e w6 ⟨σ2, R2, m2, hR, hu, hm, rfl, -, -, hf6⟩
      have HL2 : Hid (64 ≤ q → Lone x → (m2 : Int) ≤ 60) := Lib.hid fun h64 hA => by
        have hsz := same_SZ (by rw [HM1.out]; omega) (by rw [HLq.out]; omega) (fun _ => big_part x p q (by rw [HM1.out]; omega) (by rw [HM1.out]; exact hpq) h64 hA) hR hu
        have hln := pat_len2 x _ σ2 13 hsz (by rw [HM1.out]; omega) (by rw [HLq.out]; omega)
        rw [hm] at hln
        omega
      have HX6 := Lib.hid (HX5.out.later hf6 (by simp))
      have HRow6 := Lib.hid (HRow5.out.later hf6 (by simp))
      have HF6 := Lib.hid (HF5.out.tr hf6)
      clear hR hu hm hf6 HX5 HP5 HRow5 HF5
      go_wp2_with fail
      refine (create_any w6 (some ⟨g1, 0, none⟩) (some ⟨g3, 0, none⟩) none c1 N 0 n0 N 0 x (List.replicate N X) [] HM1.out HRl.out rfl hna1 (Nat.le_refl _) (by omega) (by omega) (by omega) HX6.out HRow6.out (rd_nil _) (fun _ => rfl)).mono ?_
      rintro e w7 ⟨σ3, R3, m3, hR, hu, hm, rfl, -, -, hf7⟩
      have hsz := rep_SZ (by rw [HM1.out]; omega) (by omega) (by omega) hR hu
      have hln := pat_len2 x (List.replicate N X) σ3 39 hsz (by rw [HM1.out]; omega) (by rw [HRl.out]; omega)
      rw [hm] at hln
      have hl3 : (m3 : Int) ≤ 60 := by omega
      have HX7 := Lib.hid (HX6.out.later hf7 (by simp))
      have HF7 := Lib.hid (HF6.out.tr hf7)
      clear hR hu hm hf7 HX6 HRow6 HF6 hsz hln
      have e1 : decide ((m1 : Int) ≤ 40) = true := by simp; omega
      have e2 : decide ((0 : Int) < m1) = true := by simp; omega
      have e3 : decide ((m3 : Int) ≤ 60) = true := by simp; omega
      by_cases h64 : q < 64
      · have f1 : (q : Int) < 64 := by omega
        have f2 : decide ((q : Int) < 64) = true := by simp; omega
        go_wp2
        go_ret
        exact ⟨by rfl, HF7.out.below (by simp) (by omega)⟩
      · have f1 : ¬ (q : Int) < 64 := by omega
        have f2 : decide ((q : Int) < 64) = false := by simp; omega
        go_wp2_with fail
        refine (alone_any w7 (some ⟨g1, 0, none⟩) n0 c1 x HM1.out HX7.out (by omega)).mono ?_
        rintro e w8 ⟨⟨r, rfl, hr⟩, hf8⟩
        have HF8 := Lib.hid (HF7.out.tr hf8)
        clear hf8
        cases r with
        | false =>
          go_wp2
          go_ret
          exact ⟨by rfl, HF8.out.below (by simp) (by omega)⟩
        | true =>
          have hl2 := HL2.out (by omega) (hr rfl)
          have e4 : decide ((m2 : Int) ≤ 60) = true := by simp; omega
          clear hr
          go_wp2
          go_ret
          exact ⟨by rfl, HF8.out.below (by simp) (by omega)⟩

end Bm
end Go.Proofs.Ytokfcknfkhlmfaa
