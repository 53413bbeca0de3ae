/-
  Contract of the document's own Parse of layer 9 (picklockref09): of a file that has no fault it tells the cart; and all of it once more. Condition: lengths as of slices.
-/
import Derived.Test.YthabiaenaicppaaIneRefParse2
namespace Go.Proofs.Ythabiaenaicppaa
open Go.RowKit
namespace Ine

/-- What the document's Parse leaves. -/
def RTold (w : World) (ct : Ct) (e : Ending) (w' : World) : Prop := ∃ v, e = .returned (.tuple #[v, .int .i64 0]) ∧ CartIn w' v ct ∧ Fr [] w w'

theorem fault_all (l : List UInt8) (h : fault l = 0) : bt l 7 / 4 % 4 ≠ 2 ∧ bt l 6 / 8 % 2 ≠ 1 ∧ bt l 4 ≠ 0 := by
  unfold fault at h
  repeat' split at h
  all_goals first
    | omega
    | (rename_i h1 h2 h3 h4 h5 h6 h7 h8; exact ⟨h4, h5, h6⟩)

theorem nil_of_own {w : World} {B n c : Nat} {A : Option Addr} {l : List UInt8} (h : Own w B (.slice A n c) l) : Rd w A l := h.rd

set_option maxRecDepth 100000 in
set_option maxHeartbeats 4000000 in
theorem rparse_ok (w : World) (A : Option Addr) (n c : Nat) (l : List UInt8) (hn : l.length = n) (hnc : n ≤ c) (hcm : c ≤ 9223372036854775807) (hr : Rd w A l) (hb : fault l = 0) :
    Calls Try.prog 11 #[.slice A n c] w (RTold w (cartOf l)) := by
  obtain ⟨i0, hi, hz0, hz1, hz2⟩ := info_parts info5
  obtain ⟨h16, h24, hm, h8, h6, hE⟩ := fault_cases l hb
  obtain ⟨h3, h5, -⟩ := fault_all l hb
  rw [hn] at h16 h24 hE
  have hRr := hr
  have h1 : ¬ (16777216 : Int) < n := by omega
  have h2 : ¬ (n : Int) < 16 := by omega
  obtain ⟨m0, m1, m2, m3⟩ := (take4 l (by omega)).1 hm
  obtain ⟨z, hz⟩ : ∃ z, w.heap.size = z := ⟨_, rfl⟩
  have hb0 := Blk.fresh w 36 #[.int .i64 0, .int .i64 0, .slice none 0 0, .slice none 0 0, .bool false]
  rw [hz] at hb0
  have HF0 := Lib.hid ((Fr.refl [] w).alloc (.cells #[.int .i64 0, .int .i64 0, .slice none 0 0, .slice none 0 0, .bool false] 36))
  have hr0 := hr.later HF0.out (by simp)
  obtain ⟨b, o, rfl, hc⟩ := head_cells hr0 (by omega)
  have d0 := hc 0 (by omega)
  have t0 : (0 : Int) < n := by omega
  have d1 := hc 1 (by omega)
  have t1 : (1 : Int) < n := by omega
  have d2 := hc 2 (by omega)
  have t2 : (2 : Int) < n := by omega
  have d3 := hc 3 (by omega)
  have t3 : (3 : Int) < n := by omega
  have d4 := hc 4 (by omega)
  have t4 : (4 : Int) < n := by omega
  have d5 := hc 5 (by omega)
  have t5 : (5 : Int) < n := by omega
  have d6 := hc 6 (by omega)
  have t6 : (6 : Int) < n := by omega
  have d7 := hc 7 (by omega)
  have t7 : (7 : Int) < n := by omega
  rw [Nat.add_zero] at d0
  clear hr hr0 hc
  obtain ⟨q0, q1, q2, q3, q4⟩ := blk5 hb0
  have f0 := hb0.frozen 0
  have f1 := hb0.frozen 1
  have f2 := hb0.frozen 2
  have f3 := hb0.frozen 3
  have f4 := hb0.frozen 4
  have HB0 := Lib.hid hb0
  clear hb0
  go_enter Try.func11, Try.ntmps11
  go_upto_region 1 with fail
  generalize w.alloc _ = w0 at *
  obtain ⟨y0, hy0⟩ : ∃ y, (bt l 0 : Int) = y := ⟨_, rfl⟩
  rw [hy0] at d0
  have p0 : 0 ≤ y0 := by omega
  have u0 : y0 < 256 := by have := bt_lt l 0; omega
  obtain ⟨y1, hy1⟩ : ∃ y, (bt l 1 : Int) = y := ⟨_, rfl⟩
  rw [hy1] at d1
  have p1 : 0 ≤ y1 := by omega
  have u1 : y1 < 256 := by have := bt_lt l 1; omega
  obtain ⟨y2, hy2⟩ : ∃ y, (bt l 2 : Int) = y := ⟨_, rfl⟩
  rw [hy2] at d2
  have p2 : 0 ≤ y2 := by omega
  have u2 : y2 < 256 := by have := bt_lt l 2; omega
  obtain ⟨y3, hy3⟩ : ∃ y, (bt l 3 : Int) = y := ⟨_, rfl⟩
  rw [hy3] at d3
  have p3 : 0 ≤ y3 := by omega
  have u3 : y3 < 256 := by have := bt_lt l 3; omega
  obtain ⟨y4, hy4⟩ : ∃ y, (bt l 4 : Int) = y := ⟨_, rfl⟩
  rw [hy4] at d4
  have p4 : 0 ≤ y4 := by omega
  have u4 : y4 < 256 := by have := bt_lt l 4; omega
  obtain ⟨y5, hy5⟩ : ∃ y, (bt l 5 : Int) = y := ⟨_, rfl⟩
  rw [hy5] at d5
  have p5 : 0 ≤ y5 := by omega
  have u5 : y5 < 256 := by have := bt_lt l 5; omega
  obtain ⟨y6, hy6⟩ : ∃ y, (bt l 6 : Int) = y := ⟨_, rfl⟩
  rw [hy6] at d6
  have p6 : 0 ≤ y6 := by omega
  have u6 : y6 < 256 := by have := bt_lt l 6; omega
  obtain ⟨y7, hy7⟩ : ∃ y, (bt l 7 : Int) = y := ⟨_, rfl⟩
  rw [hy7] at d7
  have p7 : 0 ≤ y7 := by omega
  have u7 : y7 < 256 := by have := bt_lt l 7; omega
  obtain rfl : y0 = 78 := by omega
  obtain rfl : y1 = 69 := by omega
  obtain rfl : y2 = 83 := by omega
  obtain rfl : y3 = 26 := by omega
  obtain ⟨M, hM⟩ : ∃ M, mapper l = M := ⟨_, rfl⟩
  rw [hM] at h8
  have hM' := hM
  unfold mapper at hM'
  have km : y7 / 16 * 16 + y6 / 16 = (M : Int) := by omega
  have kw : IntKind.i64.wrap (M : Int) = M := by rw [IntKind.wrap_i64]; omega
  have e7 : ¬ y7 / 4 % 4 = 2 := by omega
  have k6 : y6 / 8 % 2 = 0 := by omega
  have e4 : ¬ y4 = 0 := by omega
  obtain ⟨v7, k7⟩ : ∃ v, y7 / 4 % 4 = v := ⟨_, rfl⟩
  rw [k7] at e7
  have e7' : (v7 == 2) = false := by simpa using e7
  have e4' : (y4 == 0) = false := by simpa using e4
  clear e7 e4
  obtain ⟨I, hI⟩ : ∃ I : Int, (M : Int) = I := ⟨_, rfl⟩
  rw [hI] at km kw
  have h9 : ¬ (4 : Int) < I := by omega
  obtain ⟨S, hS⟩ : ∃ S, start l = S := ⟨_, rfl⟩
  have hv : (y6 / 4 % 2 = 1 ∧ (528 : Int) = (S : Int)) ∨ (y6 / 4 % 2 = 0 ∧ (16 : Int) = (S : Int)) := by rw [← hS]; unfold start; split <;> omega
  have hS1 := start_ge l
  rw [hS] at hS1
  obtain ⟨JP, kp⟩ : ∃ J, y4 * 16384 = J := ⟨_, rfl⟩
  obtain ⟨JQ, kq⟩ : ∃ J, y5 * 8192 = J := ⟨_, rfl⟩
  have hJP : JP = (prgB l : Int) := by rw [← kp]; unfold prgB; omega
  have hJQ : JQ = (chrB l : Int) := by rw [← kq]; unfold chrB; omega
  obtain ⟨P, hP⟩ : ∃ P, prgB l = P := ⟨_, rfl⟩
  obtain ⟨Q, hQ⟩ : ∃ Q, chrB l = Q := ⟨_, rfl⟩
  obtain ⟨T, hT⟩ : ∃ T, S + P = T := ⟨_, rfl⟩
  obtain ⟨E, hEe⟩ : ∃ E, T + Q = E := ⟨_, rfl⟩
  unfold endAt at hE
  rw [hS, hP, hQ] at hE
  rw [hP] at hJP
  rw [hQ] at hJQ
  have kT : (S : Int) + JP = (T : Int) := by omega
  have kE : (T : Int) + JQ = (E : Int) := by omega
  have kn : ¬ (n : Int) < (E : Int) := by omega
  have kwp : IntKind.i64.wrap JP = JP := by rw [IntKind.wrap_i64]; omega
  have kwq : IntKind.i64.wrap JQ = JQ := by rw [IntKind.wrap_i64]; omega
  have kwT : IntKind.i64.wrap (T : Int) = (T : Int) := by rw [IntKind.wrap_i64]; omega
  have kwE : IntKind.i64.wrap (E : Int) = (E : Int) := by rw [IntKind.wrap_i64]; omega
  obtain ⟨R, kr⟩ : ∃ R, y6 % 2 = R := ⟨_, rfl⟩
  have hR : R = ((bt l 6 % 2 : Nat) : Int) := by rw [← kr]; omega
  have kwr : IntKind.i64.wrap R = R := by rw [IntKind.wrap_i64]; omega
  have hcell := hRr (by omega)
  obtain ⟨b', o', hbo, hcell⟩ := hcell
  cases hbo
  obtain ⟨A2, hA2⟩ : ∃ A2, (if c = T then some (⟨b, o, none⟩ : Addr) else some ⟨b, o + T, none⟩) = A2 := ⟨_, rfl⟩
  have HRp : Hid (∀ W, Fr [] w W → Rd W (some ⟨b, o + S, none⟩) (cartOf l).prg) := Lib.hid fun W hW => by
    have h1 := Rd.cut hcell S P
    unfold cartOf
    simp only [hS, hP]
    exact h1.later hW (by simp)
  have HRc : Hid (∀ W, Fr [] w W → Rd W A2 ((l.drop T).take Q)) := Lib.hid fun W hW => by
    have h1 := Rd.cut hcell T Q
    by_cases hcT : c = T
    · exact fun h0 => by simp at h0; omega
    · rw [← hA2, if_neg hcT]
      exact h1.later hW (by simp)
  have HLp : Hid ((cartOf l).prg.length = P) := Lib.hid (by unfold cartOf; simp only [hS, hP]; simp; omega)
  have HLc : Hid (((l.drop T).take Q).length = Q) := Lib.hid (by simp; omega)
  have HA2n : Hid (A2 = none → c - T = 0) := Lib.hid (by rw [← hA2]; split <;> simp)
  have HC : Hid ((cartOf l).chr = if Q = 0 then blank else (l.drop T).take Q) := Lib.hid (by unfold cartOf; simp only [hS, hP, hQ, hT])
  have HQ : Hid (∀ W BQ A1 c1 A3 N3 c3, (cartOf l).ram = BQ → (cartOf l).chr.length = N3 → Rd W A1 (cartOf l).prg → Rd W A3 (cartOf l).chr → Fr [] w W → RTold w (cartOf l) (.returned (.tuple #[.agg #[.int .i64 I, .int .i64 R, .slice A1 P c1, .slice A3 N3 c3, .bool BQ], .int .i64 0])) W) := Lib.hid fun W BQ A1 c1 A3 N3 c3 h0 h1 h2 h3 h4 => ⟨_, rfl, ⟨A1, c1, A3, c3, by
    rw [← h0, ← h1, HLp.out, ← hI, ← hM, hR]
    rfl, h2, h3⟩, h4⟩
  have HRm : Hid ((cartOf l).ram = (Q == 0)) := Lib.hid (by unfold cartOf; simp only [hQ])
  have HRl : Hid (∀ W, Fr [] w W → Rd W (some ⟨b, o, none⟩) l) := Lib.hid fun W hW => hRr.later hW (by simp)
  generalize cartOf l = ct at *
  generalize RTold w ct = QQ at *
  have g1 : (S : Int) ≤ T := by omega
  have g2 : (T : Int) ≤ c := by omega
  have g3 : (T : Int) ≤ E := by omega
  have g4 : (E : Int) ≤ c := by omega
  have g5 : T - S = P := by omega
  have g6 : E - T = Q := by omega
  have g7 : ¬ c = S := by omega
  have g8 : S ≤ T := by omega
  have g9 : T ≤ c := by omega
  have g10 : T ≤ E := by omega
  have g11 : E ≤ c := by omega
  have hPl : P ≤ 4177920 := by omega
  have hQl : Q ≤ 2088960 := by omega
  have HJQ := Lib.hid hJQ
  clear hm m0 m1 m2 m3 hy0 hy1 hy2 hy3 hy4 hy5 hy6 hy7 h3 h5 h6 h8 hM hM' hI p0 u0 p1 u1 p2 u2 p3 u3 hb hn hE hcell hRr hT hEe hS hJP hP hQ hR kw hJQ
  go_upto_region 9 with fail
  go_quiet (fail)
  have hd : Fr [] w0 (w0.drewN nq) := (Fr.refl [] w0).drewN nq
  have hbq := HB0.out.fr hd (by simp)
  have d4' := hd.cell d4 (by simp)
  have d5' := hd.cell d5 (by simp)
  have d6' := hd.cell d6 (by simp)
  have HFq := Lib.hid (HF0.out.tr hd)
  clear hd d0 d1 d2 d3 d4 d5 d6 d7 q0 q1 q2 q3 q4 f0 f1 f2 f3 f4 HF0 HB0 k6 k7 e7' e4' h1 h2
  generalize w0.drewN nq = wq at *
  obtain ⟨q0, q1, q2, q3, q4⟩ := blk5 hbq
  have f0 := hbq.frozen 0
  have f1 := hbq.frozen 1
  have f2 := hbq.frozen 2
  have f3 := hbq.frozen 3
  have f4 := hbq.frozen 4
  have HBq := Lib.hid hbq
  clear hbq
  obtain ⟨v4, k4⟩ : ∃ v, y6 / 4 % 2 = v := ⟨_, rfl⟩
  rw [k4] at hv
  rcases hv with ⟨rfl, hlit⟩ | ⟨rfl, hlit⟩
  all_goals
    have HLit := Lib.hid hlit
    clear hlit
    go_upto_region 15 with fail
    rw [HLit.out]
    go_upto_region 20 with fail
    obtain ⟨u, hu⟩ : ∃ u, wq.heap.size = u := ⟨_, rfl⟩
    have hz4 := HBq.out.lt
    have hbu := Blk.fresh wq 36 #[.int .i64 I, .int .i64 R, .slice none 0 0, .slice none 0 0, .bool false]
    have hal : Fr [] wq (wq.alloc (.cells #[.int .i64 I, .int .i64 R, .slice none 0 0, .slice none 0 0, .bool false] 36)) := (Fr.refl [] wq).alloc _
    rw [hu] at hbu hz4 ⊢
    have HU1 := Lib.hid hbu
    have HB1 := Lib.hid (HBq.out.fr hal (by simp))
    have HF1 := Lib.hid (HFq.out.tr hal)
    have hu1 := hbu.lt
    have hul : w.heap.size ≤ u := by have := HFq.out.size; omega
    clear hbu hal q0 q1 q2 q3 q4 f0 f1 f2 f3 f4 HBq HFq d4' d5' d6'
    generalize wq.alloc _ = w1 at *
    go_wp2_with (at_builtin; refine wpList_appN _ rfl _ _ 27 rfl w.heap.size i0 Try.underlying27 hi hz0 hz1 hz2 (.slice (some ⟨w1.heap.size, 0, none⟩) 0 0) [] 0 rfl rfl (Own.empty w1 _ HF1.out.size) (some ⟨b, o + S, none⟩) P (c - S) ct.prg rfl HLp.out (HRp.out _ (HF1.out.alloc _)) (by simp) (by omega) (by have := HF1.out.size; simp; omega) ?_)
    intro A1 c1 w2 ho2 hf2 _
    have hf2' : Fr [] w1 w2 := ((Fr.refl [] w1).alloc (.cells #[] 5)).trans hf2 (by simp [Value.ownBlock])
    have hU2 := HU1.out.fr hf2' (by simp)
    have HB2 := Lib.hid (HB1.out.fr hf2' (by simp))
    have HF2 := Lib.hid (HF1.out.tr hf2')
    have HO2 := Lib.hid ho2
    have e2 := (blk5 hU2).2.2.1
    have j2 := hU2.frozen 2
    have HU2 := Lib.hid hU2
    clear hf2 hf2' ho2 hU2 HU1 HB1 HF1
    go_upto_region 21 with fail
    have hst : Fr [u] w2 (w2.setCell ⟨u, 2, none⟩ (.slice A1 P c1)) := (Fr.refl [u] w2).setCell (by simp) _
    have HU3 := Lib.hid (put5 HU2.out (.slice A1 P c1)).1
    have HB3 := Lib.hid (HB2.out.fr hst (by simp; omega))
    have HF3 : Hid (Fr [] w (w2.setCell ⟨u, 2, none⟩ (.slice A1 P c1))) := Lib.hid (HF2.out.trans hst (by simp; exact hul))
    have HO3 := Lib.hid (HO2.out.fr hst (fun k hk hm => by simp at hm; subst hm; exact HO2.out.other HU2.out (by decide) hk))
    generalize w2.setCell ⟨u, 2, none⟩ (.slice A1 P c1) = w3 at *
    clear hst e2 j2 HU2 HB2 HF2 HO2
    go_wp2_with (at_builtin; refine wpList_appN _ rfl _ _ 27 rfl w3.heap.size i0 Try.underlying27 hi hz0 hz1 hz2 (.slice (some ⟨w3.heap.size, 0, none⟩) 0 0) [] 0 rfl rfl (Own.empty w3 _ (Nat.le_refl _)) A2 Q (c - T) ((l.drop T).take Q) rfl HLc.out (HRc.out _ (HF3.out.alloc _)) HA2n.out (by omega) (by simp) ?_)
    intro A3 c3 w4 ho4 hf4 _
    have hf4' : Fr [] w3 w4 := ((Fr.refl [] w3).alloc (.cells #[] 5)).trans hf4 (by simp [Value.ownBlock])
    have hU4 := HU3.out.fr hf4' (by simp)
    have HB4 := Lib.hid (HB3.out.fr hf4' (by simp))
    have HF4 := Lib.hid (HF3.out.tr hf4')
    have HO4 := Lib.hid (HO3.out.fr hf4' (by simp))
    have HX4 := Lib.hid ho4
    have e3 := (blk5 hU4).2.2.2.1
    have j3 := hU4.frozen 3
    have HU4 := Lib.hid hU4
    clear hf4 hf4' ho4 hU4 HU3 HB3 HF3 HO3 hA2
    go_upto_region 22 with fail
    have hst : Fr [u] w4 (w4.setCell ⟨u, 3, none⟩ (.slice A3 Q c3)) := (Fr.refl [u] w4).setCell (by simp) _
    have hU5 := (put5 HU4.out (.slice A3 Q c3)).2
    have HB5 := Lib.hid (HB4.out.fr hst (by simp; omega))
    have HF5 : Hid (Fr [] w (w4.setCell ⟨u, 3, none⟩ (.slice A3 Q c3))) := Lib.hid (HF4.out.trans hst (by simp; exact hul))
    have HO5 := Lib.hid (HO4.out.fr hst (fun k hk hm => by simp at hm; subst hm; exact HO4.out.other HU4.out (by decide) hk))
    have HX5 := Lib.hid (HX4.out.fr hst (fun k hk hm => by simp at hm; subst hm; exact HX4.out.other HU4.out (by decide) hk))
    generalize w4.setCell ⟨u, 3, none⟩ (.slice A3 Q c3) = w5 at *
    have hu5 := hU5.lt
    have HU5 := Lib.hid hU5
    clear hst e3 j3 HU4 HB4 HF4 HO4 HX4
    by_cases hq0 : JQ = 0
    · have hQ0 : Q = 0 := by have := HJQ.out; omega
      have HBQ : (Q == 0) = true := by rw [hQ0]; rfl
      obtain ⟨N, hN⟩ : ∃ N, blank.length = N := ⟨_, rfl⟩
      have hmk := make_blankN N hN
      have HCb : Hid (ct.chr = blank) := Lib.hid (by rw [HC.out, if_pos hQ0])
      have HLN : Hid (ct.chr.length = N) := Lib.hid (by rw [HCb.out, hN])
      have hne : ¬ u = w5.heap.size := by omega
      obtain ⟨g2', hg2e⟩ : ∃ g2, w5.heap.size = g2 := ⟨_, rfl⟩
      have HG2 := Lib.hid hg2e
      have e3 := (blk5 HU5.out).2.2.2.1
      have j3 := HU5.out.frozen 3
      have HBQ := Lib.hid HBQ
      subst hq0
      clear hg2e hN hQ0
      go_upto_region 24 with fail
      have hg2e := HG2.out
      rw [hg2e]
      have hst : Fr [u] w5 (w5.setCell ⟨u, 3, none⟩ (.slice (some ⟨g2', 0, none⟩) N N)) := (Fr.refl [u] _).setCell (by simp) _
      have hal : Fr [] (w5.setCell ⟨u, 3, none⟩ (.slice (some ⟨g2', 0, none⟩) N N)) ((w5.setCell ⟨u, 3, none⟩ (.slice (some ⟨g2', 0, none⟩) N N)).alloc (.cells (bv blank).toArray 5)) := (Fr.refl [] _).alloc _
      have hU6 := (put5 HU5.out (.slice (some ⟨g2', 0, none⟩) N N)).2.fr hal (by simp)
      have HB6 := Lib.hid ((HB5.out.fr hst (by simp; omega)).fr hal (by simp))
      have HO6 := Lib.hid ((HO5.out.fr hst (fun k hk hm => by simp at hm; subst hm; exact HO5.out.other HU5.out (by decide) hk)).fr hal (by simp))
      have hfr := Blk.fresh (w5.setCell ⟨u, 3, none⟩ (.slice (some ⟨g2', 0, none⟩) N N)) 5 (bv blank).toArray
      have hsz : (w5.setCell ⟨u, 3, none⟩ (.slice (some ⟨g2', 0, none⟩) N N)).heap.size = g2' := by simp [World.setCell, hg2e]
      rw [hsz] at hfr
      have HE6 : Hid (Blk ((w5.setCell ⟨u, 3, none⟩ (.slice (some ⟨g2', 0, none⟩) N N)).alloc (.cells (bv blank).toArray 5)) g2' 5 (bv ct.chr).toArray) := Lib.hid (by
        rw [HCb.out]
        exact hfr)
      have HF6 : Hid (Fr [] w ((w5.setCell ⟨u, 3, none⟩ (.slice (some ⟨g2', 0, none⟩) N N)).alloc (.cells (bv blank).toArray 5))) := Lib.hid ((HF5.out.trans hst (by simp; exact hul)).tr hal)
      clear hst hal hfr hsz
      generalize (w5.setCell ⟨u, 3, none⟩ (.slice (some ⟨g2', 0, none⟩) N N)).alloc (.cells (bv blank).toArray 5) = w6 at *
      have hu6 := hU6.lt
      have e4 := (blk5 hU6).2.2.2.2
      have j4 := hU6.frozen 4
      have HU6 := Lib.hid hU6
      clear e3 j3 HB5 HO5 HX5 HF5 HU5 hmk hne hU6
      go_upto_region 25 with fail
      have hst : Fr [u] w6 (w6.setCell ⟨u, 4, none⟩ (.bool true)) := (Fr.refl [u] _).setCell (by simp) _
      have hU7 := HU6.out.put 4 (.bool true)
      simp only [List.setIfInBounds_toArray, List.set_cons_zero, List.set_cons_succ] at hU7
      have HU7 : Hid (Blk (w6.setCell ⟨u, 4, none⟩ (.bool true)) u 36 #[.int .i64 I, .int .i64 R, .slice A1 P c1, .slice (some ⟨g2', 0, none⟩) N N, .bool true]) := Lib.hid hU7
      have HB7 := Lib.hid (HB6.out.fr hst (by simp; omega))
      have HO7 := Lib.hid (HO6.out.fr hst (fun k hk hm => by simp at hm; subst hm; exact HO6.out.other HU6.out (by decide) hk))
      have HE7 := Lib.hid (HE6.out.fr hst (by simp; omega))
      have HF7 : Hid (Fr [] w (w6.setCell ⟨u, 4, none⟩ (.bool true))) := Lib.hid (HF6.out.trans hst (by simp; exact hul))
      generalize w6.setCell ⟨u, 4, none⟩ (.bool true) = w7 at *
      clear hst e4 j4 HU6 HB6 HO6 HE6 HF6 hU7
      have HB9 := Lib.hid (five_put HB7.out (.int .i64 I) (.int .i64 R) (.slice A1 P c1) (.slice (some ⟨g2', 0, none⟩) N N) (.bool true))
      have HF9 := Lib.hid (five_fr w7 z (.int .i64 I) (.int .i64 R) (.slice A1 P c1) (.slice (some ⟨g2', 0, none⟩) N N) (.bool true))
      obtain ⟨y0, y1, y2, y3, y4⟩ := blk5 HU7.out
      obtain ⟨q0, q1, q2, q3, q4⟩ := blk5 HB7.out
      have f0 := HB7.out.frozen 0
      have f1 := HB7.out.frozen 1
      have f2 := HB7.out.frozen 2
      have f3 := HB7.out.frozen 3
      have f4 := HB7.out.frozen 4
      go_wp2
      have hf := HF7.out.trans (S := []) HF9.out (by simp; omega)
      have hd1 := (HO7.out.fr HF9.out (fun k hk hm => by simp at hm; subst hm; exact HO7.out.other HB7.out (by decide) hk)).rd
      have hd2 := rd_blk (HE7.out.fr HF9.out (by simp; omega))
      obtain ⟨z0, z1, z2, z3, z4⟩ := blk5 HB9.out
      generalize ((((w7.setCell ⟨z, 0, none⟩ _).setCell ⟨z, 1, none⟩ _).setCell ⟨z, 2, none⟩ _).setCell ⟨z, 3, none⟩ _).setCell ⟨z, 4, none⟩ _ = w9 at *
      exact bodyPost_ret (v := .tuple #[.agg #[.int .i64 I, .int .i64 R, .slice A1 P c1, .slice (some ⟨g2', 0, none⟩) N N, .bool true], .int .i64 0]) (by simp [results, Try.results11, go_sem, z0, z1, z2, z3, z4]) rfl (HQ.out w9 true A1 c1 (some ⟨g2', 0, none⟩) N N (by rw [HRm.out]; exact HBQ.out) HLN.out hd1 hd2 hf)
    · have hQ0 : Q ≠ 0 := by have := HJQ.out; omega
      have HBQ : Hid ((Q == 0) = false) := Lib.hid (by simpa using hQ0)
      have kq0 : (JQ == 0) = false := by simpa using hq0
      have HCb : Hid (ct.chr = (l.drop T).take Q) := Lib.hid (by rw [HC.out, if_neg hQ0])
      have HLN : Hid (ct.chr.length = Q) := Lib.hid (by rw [HCb.out, HLc.out])
      have HU7 := HU5
      have HB7 := HB5
      have HO7 := HO5
      have HE7 := HX5
      have HF7 := HF5
      clear hq0 hQ0 HU5 HB5 HO5 HX5 HF5
      have HB9 := Lib.hid (five_put HB7.out (.int .i64 I) (.int .i64 R) (.slice A1 P c1) (.slice A3 Q c3) (.bool false))
      have HF9 := Lib.hid (five_fr w5 z (.int .i64 I) (.int .i64 R) (.slice A1 P c1) (.slice A3 Q c3) (.bool false))
      obtain ⟨y0, y1, y2, y3, y4⟩ := blk5 HU7.out
      obtain ⟨q0, q1, q2, q3, q4⟩ := blk5 HB7.out
      have f0 := HB7.out.frozen 0
      have f1 := HB7.out.frozen 1
      have f2 := HB7.out.frozen 2
      have f3 := HB7.out.frozen 3
      have f4 := HB7.out.frozen 4
      go_wp2
      have hf := HF7.out.trans (S := []) HF9.out (by simp; omega)
      have hd1 := (HO7.out.fr HF9.out (fun k hk hm => by simp at hm; subst hm; exact HO7.out.other HB7.out (by decide) hk)).rd
      have hd2 := (HE7.out.fr HF9.out (fun k hk hm => by simp at hm; subst hm; exact HE7.out.other HB7.out (by decide) hk)).rd
      rw [← HCb.out] at hd2
      obtain ⟨z0, z1, z2, z3, z4⟩ := blk5 HB9.out
      generalize ((((w5.setCell ⟨z, 0, none⟩ _).setCell ⟨z, 1, none⟩ _).setCell ⟨z, 2, none⟩ _).setCell ⟨z, 3, none⟩ _).setCell ⟨z, 4, none⟩ _ = w9 at *
      exact bodyPost_ret (v := .tuple #[.agg #[.int .i64 I, .int .i64 R, .slice A1 P c1, .slice A3 Q c3, .bool false], .int .i64 0]) (by simp [results, Try.results11, go_sem, z0, z1, z2, z3, z4]) rfl (HQ.out w9 false A1 c1 (A3) Q c3 (by rw [HRm.out]; exact HBQ.out) HLN.out hd1 hd2 hf)

end Ine
end Go.Proofs.Ythabiaenaicppaa
