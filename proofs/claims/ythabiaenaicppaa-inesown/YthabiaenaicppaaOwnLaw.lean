/-
  picklocklaw09.InesOwn returns true for every input. No condition.
-/
import Derived.Test.YthabiaenaicppaaIneParseCt
import Derived.Deep.RegionHeld3
import Derived.Deep.DeepCutAuto
namespace Go.Proofs.Ythabiaenaicppaa
open Go.RowKit
namespace Ine

/-- A byte of Rest. -/
theorem rest_cell3 {w : World} {u : Nat} {t : TypeId} (a0 a1 mp r0 r1 r2 r3 r4 r5 r6 r7 : UInt8) (A : Option Addr) (l : List UInt8) (c : Nat) (h : Blk w u t #[.int .u8 (a0.toNat : Int), .int .u8 (a1.toNat : Int), .int .u8 (mp.toNat : Int), .int .u8 (r0.toNat : Int), .int .u8 (r1.toNat : Int), .int .u8 (r2.toNat : Int), .int .u8 (r3.toNat : Int), .int .u8 (r4.toNat : Int), .int .u8 (r5.toNat : Int), .int .u8 (r6.toNat : Int), .int .u8 (r7.toNat : Int), .slice A l.length c]) (i : Nat) (hi : i < 8) : ∃ y : UInt8, w.cell? ⟨u, 3 + i, none⟩ = some (.int .u8 (y.toNat : Int)) := by
  rw [h.cell]
  rcases (by omega : i = 0 ∨ i = 1 ∨ i = 2 ∨ i = 3 ∨ i = 4 ∨ i = 5 ∨ i = 6 ∨ i = 7) with rfl | rfl | rfl | rfl | rfl | rfl | rfl | rfl
  · exact ⟨r0, rfl⟩
  · exact ⟨r1, rfl⟩
  · exact ⟨r2, rfl⟩
  · exact ⟨r3, rfl⟩
  · exact ⟨r4, rfl⟩
  · exact ⟨r5, rfl⟩
  · exact ⟨r6, rfl⟩
  · exact ⟨r7, rfl⟩

theorem upto4 (x : UInt8) : ∃ y : UInt8, 1 + (x.toNat : Int) % 4 = (y.toNat : Int) ∧ 1 ≤ y.toNat ∧ y.toNat ≤ 4 := ⟨UInt8.ofNat (1 + x.toNat % 4), by have := x.toNat_lt; simp; omega⟩
theorem upto3 (x : UInt8) : ∃ y : UInt8, (x.toNat : Int) % 4 = (y.toNat : Int) ∧ y.toNat ≤ 3 := ⟨UInt8.ofNat (x.toNat % 4), by have := x.toNat_lt; simp; omega⟩
theorem flag5 (x : UInt8) : ∃ y z : UInt8, (x.toNat : Int) % 5 * 16 = (y.toNat : Int) ∧ (y.toNat : Int) + 4 = (z.toNat : Int) ∧ y.toNat ≤ 64 ∧ y.toNat % 16 = 0 ∧ z.toNat = y.toNat + 4 := by
  refine ⟨UInt8.ofNat (x.toNat % 5 * 16), UInt8.ofNat (x.toNat % 5 * 16 + 4), ?_⟩
  have := x.toNat_lt
  simp
  omega
theorem take8_set (L : List UInt8) (k : Nat) (y : UInt8) (hk : 8 ≤ k) : (L.set k y).take 8 = L.take 8 := by
  rw [List.take_set]
  exact List.set_eq_of_length_le (by simp; omega)

/-- Both files of the law have one cart. -/
theorem own_carts (p c f f2 : UInt8) (r8 Lg Lb tail : List UInt8) (hp1 : 1 ≤ p.toNat) (hp4 : p.toNat ≤ 4) (hc3 : c.toNat ≤ 3) (hf : f.toNat ≤ 64) (hf16 : f.toNat % 16 = 0) (hf2 : f2.toNat = f.toNat + 4) (h8 : r8.length = 8) (hg : Lg.length = 512) (hb : Lb.length = p.toNat * 16384 + c.toNat * 8192) (ht : tail.length ≤ 100) :
    ∃ ct : Ct, ct.prg.length = p.toNat * 16384 ∧ (cartOf (headL p c f 0 ++ Lb) = ct ∧ fault (headL p c f 0 ++ Lb) = 0) ∧ cartOf (((head8 p c f2 0 ++ r8) ++ Lg) ++ Lb ++ tail) = ct ∧ fault (((head8 p c f2 0 ++ r8) ++ Lg) ++ Lb ++ tail) = 0 := by
  obtain ⟨pl, hpl⟩ : ∃ pl, Lb.take (p.toNat * 16384) = pl := ⟨_, rfl⟩
  obtain ⟨cl, hcl⟩ : ∃ cl, Lb.drop (p.toNat * 16384) = cl := ⟨_, rfl⟩
  have e : Lb = pl ++ cl := by rw [← hpl, ← hcl, List.take_append_drop]
  have l1 : pl.length = p.toNat * 16384 := by rw [← hpl, List.length_take]; omega
  have l2 : cl.length = c.toNat * 8192 := by rw [← hcl, List.length_drop]; omega
  have hp0 : p ≠ 0 := fun h => by rw [h] at hp1; exact absurd hp1 (by decide)
  have x1 := parts p c f 0 (List.replicate 8 0) [] pl cl [] List.length_replicate (by rw [if_neg (by omega)]; rfl) l1 l2
  have x2 := parts p c f2 0 r8 Lg pl cl tail h8 (by rw [if_pos (by omega), hg]) l1 l2
  have y1 : headL p c f 0 ++ Lb = head8 p c f 0 ++ (List.replicate 8 0 ++ ([] ++ (pl ++ (cl ++ [])))) := by rw [e]; simp [headL, List.append_assoc]
  have y2 : ((head8 p c f2 0 ++ r8) ++ Lg) ++ Lb ++ tail = head8 p c f2 0 ++ (r8 ++ (Lg ++ (pl ++ (cl ++ tail)))) := by rw [e]; simp [List.append_assoc]
  have z : (0 : UInt8).toNat = 0 := rfl
  rw [y1, y2]
  refine ⟨_, ?_, ⟨x1.1, x1.2 hp0 (by rw [z]; decide) (by omega) (by rw [z]; omega) (by simp; omega)⟩, ?_, x2.2 hp0 (by rw [z]; decide) (by omega) (by rw [z]; omega) (by rw [hg]; omega)⟩
  · exact l1
  · rw [x2.1, show f2.toNat / 16 = f.toNat / 16 by omega, show f2.toNat % 2 = f.toNat % 2 by omega]

set_option maxRecDepth 100000 in
set_option maxHeartbeats 8000000 in
theorem own_walk (a0 a1 mp r0 r1 r2 r3 r4 r5 r6 r7 : UInt8) (A : Option Addr) (l : List UInt8) (c : Nat) (w : World) (hr : Rd w A l) (hc : A = none → c = 0) (hlc : l.length ≤ c) (_hcm : c ≤ maxLen) :
    Calls Try.prog 6 #[.agg #[.int .u8 (a0.toNat : Int), .int .u8 (a1.toNat : Int), .int .u8 (mp.toNat : Int), .int .u8 (r0.toNat : Int), .int .u8 (r1.toNat : Int), .int .u8 (r2.toNat : Int), .int .u8 (r3.toNat : Int), .int .u8 (r4.toNat : Int), .int .u8 (r5.toNat : Int), .int .u8 (r6.toNat : Int), .int .u8 (r7.toNat : Int), .slice A l.length c]] w fun e w' => e = .returned (.bool true) ∧ Below w.heap.size w w' := by
  obtain ⟨i0, hi, hz0, hz1, hz2⟩ := info_parts info5
  obtain ⟨u, hu⟩ : ∃ u, w.heap.size = u := ⟨_, rfl⟩
  have hbu := Blk.fresh w 49 #[.int .u8 (a0.toNat : Int), .int .u8 (a1.toNat : Int), .int .u8 (mp.toNat : Int), .int .u8 (r0.toNat : Int), .int .u8 (r1.toNat : Int), .int .u8 (r2.toNat : Int), .int .u8 (r3.toNat : Int), .int .u8 (r4.toNat : Int), .int .u8 (r5.toNat : Int), .int .u8 (r6.toNat : Int), .int .u8 (r7.toNat : Int), .slice A l.length c]
  rw [hu] at hbu
  obtain ⟨CS, hCS⟩ : ∃ CS : Array Value, CS = #[.int .u8 (a0.toNat : Int), .int .u8 (a1.toNat : Int), .int .u8 (mp.toNat : Int), .int .u8 (r0.toNat : Int), .int .u8 (r1.toNat : Int), .int .u8 (r2.toNat : Int), .int .u8 (r3.toNat : Int), .int .u8 (r4.toNat : Int), .int .u8 (r5.toNat : Int), .int .u8 (r6.toNat : Int), .int .u8 (r7.toNat : Int), .slice A l.length c] := ⟨_, rfl⟩
  obtain ⟨ll, hll⟩ : ∃ ll, l.length = ll := ⟨_, rfl⟩
  have HCf : Hid (∀ W, Blk W u 49 CS → (W.cell? ⟨u, 0, none⟩ = some (.int .u8 (a0.toNat : Int)) ∧ W.cell? ⟨u, 1, none⟩ = some (.int .u8 (a1.toNat : Int)) ∧ W.cell? ⟨u, 2, none⟩ = some (.int .u8 (mp.toNat : Int)) ∧ W.cell? ⟨u, 11, none⟩ = some (.slice A ll c)) ∧ ∀ i, i < 8 → ∃ y : UInt8, W.cell? ⟨u, 3 + i, none⟩ = some (.int .u8 (y.toNat : Int))) := Lib.hid (by
    subst hCS hll
    exact fun W h => ⟨⟨by rw [h.cell]; rfl, by rw [h.cell]; rfl, by rw [h.cell]; rfl, by rw [h.cell]; rfl⟩, fun i hi => rest_cell3 a0 a1 mp r0 r1 r2 r3 r4 r5 r6 r7 A l c h i hi⟩)
  have HU0 : Hid (Blk (w.alloc (.cells #[.int .u8 (a0.toNat : Int), .int .u8 (a1.toNat : Int), .int .u8 (mp.toNat : Int), .int .u8 (r0.toNat : Int), .int .u8 (r1.toNat : Int), .int .u8 (r2.toNat : Int), .int .u8 (r3.toNat : Int), .int .u8 (r4.toNat : Int), .int .u8 (r5.toNat : Int), .int .u8 (r6.toNat : Int), .int .u8 (r7.toNat : Int), .slice A l.length c] 49)) u 49 CS) := Lib.hid (by rw [hCS]; exact hbu)
  have HF0 := Lib.hid ((Fr.refl [] w).alloc (.cells #[.int .u8 (a0.toNat : Int), .int .u8 (a1.toNat : Int), .int .u8 (mp.toNat : Int), .int .u8 (r0.toNat : Int), .int .u8 (r1.toNat : Int), .int .u8 (r2.toNat : Int), .int .u8 (r3.toNat : Int), .int .u8 (r4.toNat : Int), .int .u8 (r5.toNat : Int), .int .u8 (r6.toNat : Int), .int .u8 (r7.toNat : Int), .slice A l.length c] 49))
  rw [hll] at HF0 HU0 ⊢
  have HR := Lib.hid hr
  have HC := Lib.hid hc
  have HLl := Lib.hid hll
  have hlc' : ll ≤ c := by omega
  unfold maxLen at _hcm
  clear hbu hCS hr hc hlc hll
  obtain ⟨p, hp, hp1, hp4⟩ := upto4 a0
  obtain ⟨ch, hch, hch3⟩ := upto3 a1
  obtain ⟨f, f2, hf, hf2, hf64, hf16, hff⟩ := flag5 mp
  go_enter Try.func6, Try.ntmps6
  go_wp2_with fail
  generalize w.alloc _ = w0 at *
  refine (shown9 w0).mono ?_
  rintro e w1 ⟨rfl, hf1⟩
  have HU1 := Lib.hid (HU0.out.fr hf1 (by simp))
  have HF1 := Lib.hid (HF0.out.tr hf1)
  clear hf1 HU0 HF0
  obtain ⟨⟨d0, d1, d2, d11⟩, -⟩ := HCf.out w1 HU1.out
  have HFl := Lib.hid hf
  have HFl2 := Lib.hid hf2
  clear hf hf2
  go_upto_region 5 with fail
  rw [hch]
  clear hp hch d0 d1 d2 d11
  obtain ⟨K, hK⟩ : ∃ K : Nat, (p.toNat : Int) * 16384 + (ch.toNat : Int) * 8192 = (K : Int) := ⟨p.toNat * 16384 + ch.toNat * 8192, by omega⟩
  have hKb : K ≤ 100000 := by omega
  have HKn : Hid (K = p.toNat * 16384 + ch.toNat * 8192) := Lib.hid (by omega)
  have HK := Lib.hid hK
  clear hK
  go_wp2_with fail
  rw [HK.out]
  (with_reducible refine (fill_any w1 K mp (by omega)).mono ?_)
  rintro e w2 ⟨Lb, hLb, rfl, hb2, hf2⟩
  obtain ⟨gb, hgb⟩ : ∃ gb, w1.heap.size = gb := ⟨_, rfl⟩
  rw [hgb] at hb2 ⊢
  have HLb := Lib.hid hLb
  have HB2 := Lib.hid hb2
  have HU2 := Lib.hid (HU1.out.fr hf2 (by simp))
  have HF2 := Lib.hid (HF1.out.tr hf2)
  have hgbw : w.heap.size ≤ gb := by have := HF1.out.size; omega
  clear hLb hb2 hf2 HU1 HF1 hgb
  go_wp2_with fail
  rw [HFl.out]
  (with_reducible refine (headZ w2 p ch f).mono ?_)
  rintro e w3 ⟨A1, c1, rfl, ho3, hf3⟩
  have HO3 := Lib.hid ho3
  have HB3 := Lib.hid (HB2.out.fr hf3 (by simp))
  have HU3 := Lib.hid (HU2.out.fr hf3 (by simp))
  have HF3 := Lib.hid (HF2.out.tr hf3)
  have hgb2 := HB2.out.lt
  have hs3 := hf3.size
  have HRb3 := Lib.hid (rd_blk HB3.out)
  clear ho3 hf3
  go_wp2_with (at_builtin; refine wpList_appN _ rfl _ _ 27 rfl w2.heap.size i0 Try.underlying27 hi hz0 hz1 hz2 (.slice A1 16 c1) (headL p ch f 0) 16 (headL_length p ch f 0) rfl HO3.out (some ⟨gb, 0, none⟩) K K Lb rfl HLb.out HRb3.out (by simp) (by omega) hs3 ?_)
  intro A4 c4 w4 ho4 hf4 _
  obtain ⟨n4, hn4⟩ : ∃ n, 16 + K = n := ⟨_, rfl⟩
  rw [hn4] at ho4 ⊢
  have hfr34 : ∀ k ∈ (Value.slice A1 16 c1).ownBlock.toList, w2.heap.size ≤ k := fun k hk => (HO3.out.lt k (by simpa using hk)).1
  obtain ⟨hn4c, hc4m⟩ := ho4.caps
  have HO4 := Lib.hid ho4
  have HB4 := Lib.hid (HB3.out.fr hf4 (fun hm => by have := hfr34 _ hm; omega))
  have HU4 := Lib.hid (HU3.out.fr hf4 (fun hm => by have := hfr34 _ hm; have := HU2.out.lt; omega))
  have HF4 : Hid (Fr [] w w4) := Lib.hid (HF3.out.trans hf4 (fun k hk => .inr (by have := hfr34 k hk; have := HF2.out.size; omega)))
  have HN4 := Lib.hid hn4
  clear ho4 hf4 hn4 HO3 HB3 HU3 HF3 HB2 HU2 HF2 HRb3 hs3 hgb2 hfr34
  go_wp2_with fail
  rw [HFl.out, HFl2.out]
  (with_reducible refine (headZ w4 p ch f2).mono ?_)
  rintro e w5 ⟨A5, c5, rfl, ho5, hf5⟩
  obtain ⟨g5, rfl, -⟩ := ho5.head (by omega)
  have HO5 := Lib.hid ho5
  have HU5 := Lib.hid (HU4.out.fr hf5 (by simp))
  have HF5 := Lib.hid hf5
  clear ho5 hf5
  go_wp2_with fail
  go_loopw [10] (fun s10 wr => ∃ (i : Nat) (L : List UInt8), s10 = .int .i64 (i : Int) ∧ i ≤ 8 ∧ L.length = 16 ∧ L.take 8 = head8 p ch f2 0 ∧ Own wr w4.heap.size (.slice (some ⟨g5, 0, none⟩) 16 c5) L ∧ Blk wr u 49 CS ∧ Fr [] w4 wr) (fun s10 _ => 8 - (intOf s10).toNat)
  case atStart => exact ⟨0, headL p ch f2 0, rfl, by omega, headL_length p ch f2 0, rfl, HO5.out, HU5.out, HF5.out⟩
  case round =>
    obtain ⟨i, L, rfl, hi8, hL, hL8, ho, hU, hf⟩ := hrel
    have HL := Lib.hid hL
    have HL8 := Lib.hid hL8
    have HO := Lib.hid ho
    have HU := Lib.hid hU
    have HF := Lib.hid hf
    clear hL hL8 HO5 HU5 HF5
    by_cases hlt : i < 8
    · obtain ⟨g', hg', -, hcl, hfz, hput⟩ := ho.head (by omega)
      cases hg'
      obtain ⟨k, hk⟩ : ∃ k, 8 + i = k := ⟨_, rfl⟩
      have kk : (8 : Int) + (i : Int) = (k : Int) := by omega
      have hk1 : (k : Int) < 16 := by omega
      have hk0 : (0 : Int) ≤ k := by omega
      have hi0 : (0 : Int) ≤ i := by omega
      have hi1 : (i : Int) < 8 := by omega
      obtain ⟨uo, hco⟩ := hcl k (by omega)
      have hfo := hfz k
      obtain ⟨y, hy⟩ := (HCf.out wr hU).2 i hlt
      have HPut := Lib.hid (hput k y)
      have hgu : g5 ≠ u := fun e => by subst e; exact ho.other hU (by decide) rfl
      have hk8 : 8 ≤ k := by omega
      clear ho hU hf hcl hfz hput hk
      go_wp2
      go_roundw
      case rel =>
        have hst : Fr [g5] wr (wr.setCell ⟨g5, k, none⟩ (.int .u8 (y.toNat : Int))) := (Fr.refl [g5] wr).setCell (by simp) _
        exact ⟨i + 1, L.set k y, by go_num, by omega, by rw [List.length_set]; exact HL.out, by rw [take8_set L k y hk8]; exact HL8.out, HPut.out, HU.out.fr hst (by simp; exact fun e => hgu e.symm), HF.out.trans hst (by simp; exact (HO.out.lt g5 rfl).1)⟩
      case measure => simp [intOf]; omega
    · clear ho hU hf
      obtain rfl : i = 8 := by omega
      generalize wr = w6 at *
      have HRb6 : Hid (∀ W, Fr [] w4 W → Rd W (some ⟨gb, 0, none⟩) Lb) := Lib.hid fun W hW => rd_blk (HB4.out.fr hW (by simp))
      have HRl6 : Hid (∀ W, Fr [] w4 W → Rd W A l) := Lib.hid fun W hW => HR.out.later (HF4.out.tr hW) (by simp)
      obtain ⟨⟨-, -, -, d11⟩, -⟩ := HCf.out w6 HU.out
      obtain ⟨nb, hnb⟩ : ∃ nb : Nat, min (ll : Int) 100 = (nb : Int) := ⟨(min (ll : Int) 100).toNat, by omega⟩
      have hnb1 : nb ≤ 100 := by omega
      have hnb2 : (nb : Int) ≤ c := by omega
      have hnb3 : nb ≤ c := by omega
      have hnb4 : (0 : Int) ≤ nb := by omega
      have HLt : Hid ((l.take nb).length = nb) := Lib.hid (by rw [List.length_take, HLl.out]; omega)
      have HFi : Hid (∀ W, Calls Try.prog 9 #[.int .i64 512, .int .u8 (mp.toNat : Int)] W fun e w' => ∃ g Lg, e = .returned (.slice (some ⟨g, 0, none⟩) 512 512) ∧ Lg.length = 512 ∧ Rd w' (some ⟨g, 0, none⟩) Lg ∧ Fr [] W w') := Lib.hid fun W => (fill_any W 512 mp (by decide)).mono fun e w' ⟨L, h1, h2, h3, h4⟩ => ⟨_, L, h2, h1, rd_blk h3, h4⟩
      have hs6 := HF.out.size
      have hul : u < w4.heap.size := HU4.out.lt
      have HC11 : Hid (CS[11]? = some (.slice A ll c)) := Lib.hid (by rw [← HU4.out.cell 11]; exact (HCf.out w4 HU4.out).1.2.2.2)
      have hF6 := HF.out
      go_upto_region 12 with fail
      go_cut [9] (fun s9 wx => ∃ (A9 : Option Addr) (c9 n9 : Nat) (Lg : List UInt8), s9 = .slice A9 n9 c9 ∧ n9 = 16 + 512 + K + nb ∧ Lg.length = 512 ∧ Own wx w4.heap.size (.slice A9 n9 c9) (((L ++ Lg) ++ Lb) ++ l.take nb) ∧ Fr [] w4 wx)
      case first =>
        go_region_held3 (fun w' => w'.cell? ⟨u, 11, none⟩ = some (.slice A ll c)) (first | exact d11 | exact d7 | exact d8 | exact d9 | exact d10 | go_keep) (first
          | (refine step_app _ rfl (.tmp 69) (.tmp 76) 27 rfl w4.heap.size i0 Try.underlying27 hi hz0 hz1 hz2 (.slice A9 (528 + K) c9) ((L ++ Lg) ++ Lb) (528 + K) HL9.out (by first | rfl | simp [Act.eval]) HO9.out A nb c (l.take nb) (by first | rfl | simp [Act.eval]) HLt.out (rd_take (HRl6.out w9 HF9.out) nb) HC.out (by omega) HF9.out.size ?_; intro A10 c10 w10 ho10 hf10 _; have HF10 : Hid (Fr [] w4 w10) := Lib.hid (HF9.out.trans hf10 (fun k hk => .inr (HO9.out.lt k (by simpa using hk)).1)); have HO10 := Lib.hid ho10; have d10 := ((HU4.out.fr HF10.out (by simp)).cell 11).trans HC11.out; clear ho10 hf10)
          | (refine step_app _ rfl (.tmp 67) (.tmp 68) 27 rfl w4.heap.size i0 Try.underlying27 hi hz0 hz1 hz2 (.slice A8 528 c8) (L ++ Lg) 528 HL8g.out (by first | rfl | simp [Act.eval]) HO8.out (some ⟨gb, 0, none⟩) K K Lb (by first | rfl | simp [Act.eval]) HLb.out (HRb6.out w8 HF8.out) (by simp) (by omega) HF8.out.size ?_; intro A9 c9 w9 ho9 hf9 _; have HF9 : Hid (Fr [] w4 w9) := Lib.hid (HF8.out.trans hf9 (fun k hk => .inr (HO8.out.lt k (by simpa using hk)).1)); have HO9 := Lib.hid ho9; have HL9 : Hid (((L ++ Lg) ++ Lb).length = 528 + K) := Lib.hid (by rw [List.length_append, HL8g.out, HLb.out]); have d9 := ((HU4.out.fr HF9.out (by simp)).cell 11).trans HC11.out; clear ho9 hf9)
          | (refine step_app _ rfl (.tmp 64) (.tmp 66) 27 rfl w4.heap.size i0 Try.underlying27 hi hz0 hz1 hz2 (.slice (some ⟨g5, 0, none⟩) 16 c5) L 16 HL.out (by first | rfl | simp [Act.eval]) HO7.out (some ⟨g7, 0, none⟩) 512 512 Lg (by first | rfl | simp [Act.eval]) HLg.out HR7.out (by simp) (by omega) HF7.out.size ?_; intro A8 c8 w8 ho8 hf8 _; have HF8 : Hid (Fr [] w4 w8) := Lib.hid (HF7.out.trans hf8 (fun k hk => .inr (HO7.out.lt k (by simpa using hk)).1)); have HO8 : Hid (Own w8 w4.heap.size (.slice A8 528 c8) (L ++ Lg)) := Lib.hid ho8; have HL8g : Hid ((L ++ Lg).length = 528) := Lib.hid (by rw [List.length_append, HL.out, HLg.out]); have d8 := ((HU4.out.fr HF8.out (by simp)).cell 11).trans HC11.out; clear ho8 hf8)
          | (go_at_call 9; (with_reducible refine (HFi.out _).mono ?_); rintro e w7 ⟨g7, Lg, rfl, hLg, hR7, hf7⟩; have HF7 : Hid (Fr [] w4 w7) := Lib.hid (HF.out.drew.tr hf7); have HO7 : Hid (Own w7 w4.heap.size (.slice (some ⟨g5, 0, none⟩) 16 c5) L) := Lib.hid ((HO.out.fr (Fr.refl [] w6).drew (by simp)).fr hf7 (by simp)); have HR7 := Lib.hid hR7; have HLg := Lib.hid hLg; have d7 := ((HU4.out.fr HF7.out (by simp)).cell 11).trans HC11.out; clear hLg hR7 hf7))
        all_goals
          go_wp2_with fail
          go_meet
          exact ⟨A10, c10, _, Lg, rfl, by omega, HLg.out, HO10.out, HF10.out⟩
      case rest =>
        obtain ⟨A9, c9, n9, Lg, rfl, hn9, hLg, ho9, hf9⟩ := hcut
        have hL9 : ((L ++ Lg) ++ Lb) ++ l.take nb = (((head8 p ch f2 0 ++ L.drop 8) ++ Lg) ++ Lb ++ l.take nb) := by rw [← HL8.out, List.take_append_drop]
        obtain ⟨ct, hct, ⟨hc1, hc1f⟩, hc2, hc2f⟩ := own_carts p ch f f2 (L.drop 8) Lg Lb (l.take nb) hp1 hp4 hch3 hf64 hf16 hff (by rw [List.length_drop, HL.out]) hLg (by rw [HLb.out, HKn.out]) (by rw [HLt.out]; exact hnb1)
        rw [← hL9] at hc2 hc2f
        have hlen9 : (((L ++ Lg) ++ Lb) ++ l.take nb).length = n9 := by rw [List.length_append, List.length_append, List.length_append, HL.out, hLg, HLb.out, HLt.out, hn9]
        have hlen4 : (headL p ch f 0 ++ Lb).length = n4 := by rw [List.length_append, headL_length, HLb.out]; exact HN4.out
        have HO4c := Lib.hid (HO4.out.fr hf9 (by simp))
        obtain ⟨hn9c, hc9m⟩ := ho9.caps
        generalize ((L ++ Lg) ++ Lb) ++ l.take nb = L9 at *
        generalize headL p ch f 0 ++ Lb = L4 at *
        obtain ⟨gt, rfl, -⟩ := ho9.head (by omega)
        have hgt : gt < wc.heap.size := (ho9.lt gt rfl).2
        have hgtb : w4.heap.size ≤ gt := (ho9.lt gt rfl).1
        have hw4 : w.heap.size ≤ w4.heap.size := HF4.out.size
        have hn9b : n9 ≤ 101000 := by omega
        have hn9a : 0 < n9 := by omega
        obtain ⟨m, r, pl, cl, bq⟩ := ct
        simp only at hct
        obtain ⟨P1, hP1⟩ : ∃ P, pl.length = P := ⟨_, rfl⟩
        obtain ⟨Q1, hQ1⟩ : ∃ P, cl.length = P := ⟨_, rfl⟩
        obtain ⟨mI, hmI⟩ : ∃ z : Int, (m : Int) = z := ⟨_, rfl⟩
        obtain ⟨rI, hrI⟩ : ∃ z : Int, (r : Int) = z := ⟨_, rfl⟩
        have kP : (p.toNat : Int) * 16384 = (P1 : Int) := by omega
        have hP1b : P1 ≤ 65536 := by omega
        have HPa1 : Hid (∀ W, Fr [] wc W → Calls Try.prog 10 #[.slice A4 n4 c4] W (Carted W mI rI pl cl P1 Q1 bq)) := Lib.hid fun W hW => parse_ct W A4 n4 c4 L4 ⟨m, r, pl, cl, bq⟩ hlen4 hn4c (HO4c.out.fr hW (by simp)).rd hc1f hc1 mI rI P1 Q1 hmI hrI hP1 hQ1
        have HPa2 : Hid (∀ W, Fr [] wc W → Calls Try.prog 10 #[.slice (some ⟨gt, 0, none⟩) n9 c9] W (Carted W mI rI pl cl P1 Q1 bq)) := Lib.hid fun W hW => parse_ct W (some ⟨gt, 0, none⟩) n9 c9 L9 ⟨m, r, pl, cl, bq⟩ hlen9 hn9c (ho9.fr hW (by simp)).rd hc2f hc2 mI rI P1 Q1 hmI hrI hP1 hQ1
        have HS2 : Hid (∀ W g1 g2 g3 g4, Blk W g1 5 (bv pl).toArray → Blk W g2 5 (bv cl).toArray → Blk W g3 5 (bv pl).toArray → Blk W g4 5 (bv cl).toArray → Calls Try.prog 12 #[.agg #[.int .i64 mI, .int .i64 rI, .slice (some ⟨g1, 0, none⟩) P1 P1, .slice (some ⟨g2, 0, none⟩) Q1 Q1, .bool bq], .agg #[.int .i64 mI, .int .i64 rI, .slice (some ⟨g3, 0, none⟩) P1 P1, .slice (some ⟨g4, 0, none⟩) Q1 Q1, .bool bq]] W fun e w' => e = .returned (.bool true) ∧ Fr [] W w') := Lib.hid fun W g1 g2 g3 g4 b1 b2 b3 b4 => same_two W mI rI pl cl P1 Q1 bq g1 g2 g3 g4 m r hmI.symm hrI.symm hP1 hQ1 b1 b2 b3 b4
        have HO9 := Lib.hid ho9
        have HFc : Hid (Fr [] w wc) := Lib.hid (HF4.out.tr hf9)
        have HLen9 := Lib.hid hlen9
        clear hL9 hct hc1 hc1f hc2 hc2f hlen9 hlen4 HO4c ho9 hf9 hP1 hQ1 hmI hrI hLg hn9 HL HL8 HO HU HF HRb6 HRl6 d11 hnb HLt HFi hs6 hF6 HLl HKn HK HLb HB4 HU4 HF4 HO4 HCf HFl HFl2 HC HR hp1 hp4 hch3 hf64 hf16 hff
        go_wp2_with fail
        (with_reducible refine (HPa1.out wc (Fr.refl [] wc)).mono ?_)
        rintro e w10 ⟨g1, g2, rfl, hg1, hg2, hd1, hd2, hf10⟩
        have HD1 := Lib.hid hd1
        have HD2 := Lib.hid hd2
        have HF10 := Lib.hid hf10
        have hs10 := hf10.size
        clear hd1 hd2 hf10 HPa1
        go_upto_region 14 with fail
        obtain ⟨u1, hu1⟩ : ∃ u, w10.heap.size = u := ⟨_, rfl⟩
        have hbu1 := Blk.fresh w10 32 #[.int .i64 mI, .int .i64 rI, .slice (some ⟨g1, 0, none⟩) P1 P1, .slice (some ⟨g2, 0, none⟩) Q1 Q1, .bool bq]
        have hal : Fr [] w10 (w10.alloc (.cells #[.int .i64 mI, .int .i64 rI, .slice (some ⟨g1, 0, none⟩) P1 P1, .slice (some ⟨g2, 0, none⟩) Q1 Q1, .bool bq] 32)) := (Fr.refl [] w10).alloc _
        rw [hu1] at hbu1 ⊢
        have HE11 := Lib.hid hbu1
        have HD11 := Lib.hid (HD1.out.fr hal (by simp))
        have HD21 := Lib.hid (HD2.out.fr hal (by simp))
        have HF11 := Lib.hid (HF10.out.tr hal)
        clear hbu1 hal HD1 HD2 HF10
        generalize w10.alloc _ = w11 at *
        go_wp2_with fail
        (with_reducible refine (HPa2.out w11 HF11.out).mono ?_)
        rintro e w12 ⟨g3, g4, rfl, hg3, hg4, hd3, hd4, hf12⟩
        have hs11 := HF11.out.size
        have hs12 := hf12.size
        have HD3 := Lib.hid hd3
        have HD4 := Lib.hid hd4
        have HE12 := Lib.hid (HE11.out.fr hf12 (by simp))
        have HD12 := Lib.hid (HD11.out.fr hf12 (by simp))
        have HD22 := Lib.hid (HD21.out.fr hf12 (by simp))
        have HF12 := Lib.hid (HF11.out.tr hf12)
        clear hd3 hd4 hf12 HE11 HD11 HD21 HF11 HPa2
        go_upto_region 15 with fail
        obtain ⟨u2, hu2⟩ : ∃ u, w12.heap.size = u := ⟨_, rfl⟩
        have hbu2 := Blk.fresh w12 32 #[.int .i64 mI, .int .i64 rI, .slice (some ⟨g3, 0, none⟩) P1 P1, .slice (some ⟨g4, 0, none⟩) Q1 Q1, .bool bq]
        have hal : Fr [] w12 (w12.alloc (.cells #[.int .i64 mI, .int .i64 rI, .slice (some ⟨g3, 0, none⟩) P1 P1, .slice (some ⟨g4, 0, none⟩) Q1 Q1, .bool bq] 32)) := (Fr.refl [] w12).alloc _
        rw [hu2] at hbu2 ⊢
        have HE2 := Lib.hid hbu2
        have HE1 := Lib.hid (HE12.out.fr hal (by simp))
        have HD13 := Lib.hid (HD12.out.fr hal (by simp))
        have HD23 := Lib.hid (HD22.out.fr hal (by simp))
        have HD33 := Lib.hid (HD3.out.fr hal (by simp))
        have HD43 := Lib.hid (HD4.out.fr hal (by simp))
        have HF13 := Lib.hid (HF12.out.tr hal)
        have HO13 := Lib.hid (HO9.out.fr HF13.out (by simp))
        clear hbu2 hal HE12 HD12 HD22 HD3 HD4 HF12 HO9
        generalize w12.alloc _ = w13 at *
        have hx1 : gt ≠ u1 := by omega
        have hx2 : gt ≠ u2 := by omega
        have hy1 : gt ≠ g1 := by omega
        have hy2 : gt ≠ g2 := by omega
        have hy3 : gt ≠ g3 := by omega
        have hy4 : gt ≠ g4 := by omega
        go_wp2_with fail
        go_loopw [15] (fun s15 wr => ∃ (i : Nat) (L : List UInt8), s15 = .int .i64 (i : Int) ∧ i ≤ n9 ∧ L.length = n9 ∧ Own wr w4.heap.size (.slice (some ⟨gt, 0, none⟩) n9 c9) L ∧ Fr [gt] w13 wr) (fun s15 _ => n9 - (intOf s15).toNat)
        case atStart => exact ⟨0, L9, rfl, Nat.zero_le _, HLen9.out, HO13.out, Fr.refl _ _⟩
        case round =>
          obtain ⟨i, L', rfl, hi9, hL', ho, hf⟩ := hrel
          have HL' := Lib.hid hL'
          have HO := Lib.hid ho
          have HF := Lib.hid hf
          by_cases hlt : i < n9
          · obtain ⟨g', hg', -, hcl, hfz, hput⟩ := ho.head hn9a
            cases hg'
            have hi1 : (i : Int) < n9 := by omega
            have hi0 : (0 : Int) ≤ i := by omega
            obtain ⟨uo, hco⟩ := hcl i hlt
            have hfo := hfz i
            have HPut := Lib.hid (hput i 0)
            clear hL' ho hf hcl hfz hput
            go_wp2
            go_roundw
            case rel => exact ⟨i + 1, L'.set i 0, by go_num, by omega, by rw [List.length_set]; exact HL'.out, HPut.out, HF.out.setCell (by simp) _⟩
            case measure => simp [intOf]; omega
          · obtain rfl : i = n9 := by omega
            clear ho hL'
            have hE1 := HE1.out.fr hf (by simp; exact fun e => hx1 e.symm)
            have hE2 := HE2.out.fr hf (by simp; exact fun e => hx2 e.symm)
            have HSc := Lib.hid (HS2.out wr g1 g2 g3 g4 (HD13.out.fr hf (by simp; exact fun e => hy1 e.symm)) (HD23.out.fr hf (by simp; exact fun e => hy2 e.symm)) (HD33.out.fr hf (by simp; exact fun e => hy3 e.symm)) (HD43.out.fr hf (by simp; exact fun e => hy4 e.symm)))
            obtain ⟨b0, b1, b2, b3, b4⟩ := blk5 hE1
            obtain ⟨e0, e1, e2, e3, e4⟩ := blk5 hE2
            have HE := Lib.hid hE1
            have HFw : Hid (Fr [] w wr) := Lib.hid ((HFc.out.tr HF13.out).trans hf (by simp; omega))
            clear hE1 hE2 hf HE1 HE2 HD13 HD23 HD33 HD43 HS2 HF HO HF13 HFc HO13
            go_wp2_with fail
            (with_reducible refine HSc.out.mono ?_)
            rintro e wz ⟨rfl, hfz⟩
            obtain ⟨-, -, z2, -, -⟩ := blk5 (HE.out.fr hfz (by simp))
            have HFz := Lib.hid (HFw.out.tr hfz)
            clear b0 b1 b2 b3 b4 e0 e1 e2 e3 e4 hfz HSc
            go_wp2
            go_ret
            exact ⟨by simp, HFz.out.below (by simp) (Nat.le_refl _)⟩

end Ine
end Go.Proofs.Ythabiaenaicppaa
