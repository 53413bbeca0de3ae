/-
  Contract of ines' (file).cart: the cart of a file that has no fault; its bytes are copies.
-/
import Derived.Test.YthabiaenaicppaaIneRead
import Derived.Test.YthabiaenaicppaaMakeI
import Derived.Deep.DeepCutAuto
namespace Go.Proofs.Ythabiaenaicppaa
open Go.RowKit
namespace Ine

/-- A cart's cells. -/
def cells5 (m r : Int) (P C : Value) (b : Bool) : Array Value := #[.int .i64 m, .int .i64 r, P, C, .bool b]
theorem blk5 {w : World} {b : Nat} {x0 x1 x2 x3 x4 : Value} {t : TypeId} (h : Blk w b t #[x0, x1, x2, x3, x4]) : w.cell? ⟨b, 0, none⟩ = some x0 ∧ w.cell? ⟨b, 1, none⟩ = some x1 ∧ w.cell? ⟨b, 2, none⟩ = some x2 ∧ w.cell? ⟨b, 3, none⟩ = some x3 ∧ w.cell? ⟨b, 4, none⟩ = some x4 :=
  ⟨by rw [h.cell]; rfl, by rw [h.cell]; rfl, by rw [h.cell]; rfl, by rw [h.cell]; rfl, by rw [h.cell]; rfl⟩
theorem put5 {w : World} {b : Nat} {t : TypeId} {x0 x1 x2 x3 x4 : Value} (h : Blk w b t #[x0, x1, x2, x3, x4]) (y : Value) :
    Blk (w.setCell ⟨b, 2, none⟩ y) b t #[x0, x1, y, x3, x4] ∧ Blk (w.setCell ⟨b, 3, none⟩ y) b t #[x0, x1, x2, y, x4] := by
  refine ⟨?_, ?_⟩
  · have := h.put 2 y; simpa using this
  · have := h.put 3 y; simpa using this
theorem five_put {w : World} {b : Nat} {x0 x1 x2 x3 x4 : Value} {t : TypeId} (h : Blk w b t #[x0, x1, x2, x3, x4]) (y0 y1 y2 y3 y4 : Value) : Blk (((((w.setCell ⟨b, 0, none⟩ y0).setCell ⟨b, 1, none⟩ y1).setCell ⟨b, 2, none⟩ y2).setCell ⟨b, 3, none⟩ y3).setCell ⟨b, 4, none⟩ y4) b t #[y0, y1, y2, y3, y4] := by
  have := ((((h.put 0 y0).put 1 y1).put 2 y2).put 3 y3).put 4 y4
  simpa only [List.setIfInBounds_toArray, List.set_cons_zero, List.set_cons_succ] using this
theorem five_fr (w : World) (b : Nat) (y0 y1 y2 y3 y4 : Value) : Fr [b] w (((((w.setCell ⟨b, 0, none⟩ y0).setCell ⟨b, 1, none⟩ y1).setCell ⟨b, 2, none⟩ y2).setCell ⟨b, 3, none⟩ y3).setCell ⟨b, 4, none⟩ y4) :=
  (((((Fr.refl [b] w).setCell (by simp) _).setCell (by simp) _).setCell (by simp) _).setCell (by simp) _).setCell (by simp) _
/-- A cart whose bytes lie at the heads of blocks of their own. -/
def ctV (ct : Ct) (g1 g2 : Nat) : Value := .agg #[.int .i64 (ct.m : Int), .int .i64 (ct.r : Int), .slice (some ⟨g1, 0, none⟩) ct.prg.length ct.prg.length, .slice (some ⟨g2, 0, none⟩) ct.chr.length ct.chr.length, .bool ct.ram]
/-- A cart that is told. -/
def Told (w : World) (ct : Ct) (e : Value) (w' : World) : Prop :=
  ∃ g1 g2, e = ctV ct g1 g2 ∧ w.heap.size ≤ g1 ∧ w.heap.size ≤ g2 ∧ g1 ≠ g2 ∧ Blk w' g1 5 (bv ct.prg).toArray ∧ Blk w' g2 5 (bv ct.chr).toArray ∧ Fr [] w w'

theorem cart_lens (l : List UInt8) (h : endAt l ≤ l.length) : (cartOf l).prg.length = prgB l ∧ (cartOf l).chr.length = (if chrB l = 0 then 8192 else chrB l) := by
  unfold endAt at h
  refine ⟨by simp [cartOf]; omega, ?_⟩
  simp only [cartOf]
  split
  · exact blank_length
  · simp; omega

theorem make_blank (w : World) : (Instr.makeSlice 27 (.int .i64 8192) (.int .i64 8192)).run Try.prog w = .ok (.slice (some ⟨w.heap.size, 0, none⟩) 8192 8192) (w.alloc (.cells (bv blank).toArray 5)) := Mi.make_i64 8192 (by decide) w
theorem make_blankN (N : Nat) (hN : blank.length = N) (w : World) : (Instr.makeSlice 27 (.int .i64 8192) (.int .i64 8192)).run Try.prog w = .ok (.slice (some ⟨w.heap.size, 0, none⟩) N N) (w.alloc (.cells (bv blank).toArray 5)) := by
  rw [← hN, blank_length]
  exact make_blank w

set_option maxRecDepth 100000 in
set_option maxHeartbeats 2000000 in
theorem cart_any (w : World) (A : Option Addr) (n c : Nat) (l : List UInt8) (hn : l.length = n) (h16 : 16 ≤ n) (hnc : n ≤ c) (hn2 : n ≤ 16777216) (h4 : bt l 4 ≠ 0) (hE : endAt l ≤ n) (hr : Rd w A l) :
    Calls Try.prog 17 #[.slice A n c] w fun e w' => ∃ v, e = .returned v ∧ Told w (cartOf l) v w' := by
  have K1 := Lib.hid (fun W (h : Rd W A l) => mapper_any W A n c l hn h16 h)
  have K2 := Lib.hid (fun W (h : Rd W A l) => mirror_any W A n c l hn h16 h)
  have K3 := Lib.hid (fun W (h : Rd W A l) => chrBytes_any W A n c l hn h16 h)
  have K4 := Lib.hid (fun W (h : Rd W A l) => prgStart_any W A n c l hn h16 h)
  have K5 := Lib.hid (fun W (h : Rd W A l) => chrEnd_any W A n c l hn h16 h)
  have K6 := Lib.hid (fun W (h : Rd W A l) => prgBytes_any W A n c l hn h16 h)
  obtain ⟨hl1, hl2⟩ := cart_lens l (by omega)
  obtain ⟨b, o, rfl, -⟩ := head_cells hr (by omega)
  obtain ⟨b', o', hbo, hcell⟩ := hr (by omega)
  cases hbo
  have hs := start_ge l
  have hpb := prgB_le l
  have hp16 : 16384 ≤ prgB l := by unfold prgB; omega
  have hcb := chrB_le l
  have hm4 : (cartOf l).m = mapper l := rfl
  have hr4 : (cartOf l).r = bt l 6 % 2 := rfl
  have hp4 : (cartOf l).prg = (l.drop (start l)).take (prgB l) := rfl
  have hc4 : (cartOf l).chr = if chrB l = 0 then blank else (l.drop (start l + prgB l)).take (chrB l) := rfl
  have hb4 : (cartOf l).ram = (chrB l == 0) := rfl
  have hE' := hE
  unfold endAt at hE'
  obtain ⟨E, hEe⟩ : ∃ E, endAt l = E := ⟨_, rfl⟩
  have hEs : start l + prgB l + chrB l = E := hEe
  rw [hEe] at K5 hE
  generalize mapper l = m at *
  generalize bt l 6 % 2 = rr at *
  generalize start l = s at *
  generalize prgB l = p at *
  generalize chrB l = q at *
  generalize cartOf l = ct at *
  obtain ⟨cm, cr, cp, cc, cb⟩ := ct
  simp only at hl1 hl2 hm4 hr4 hp4 hc4 hb4
  subst hm4 hr4 hb4
  have HL1 := Lib.hid hl1
  have HL2 := Lib.hid hl2
  have HP4 := Lib.hid hp4
  have HC4 := Lib.hid hc4
  have HE := Lib.hid hEs
  have HR := Lib.hid hr
  obtain ⟨ln, hln⟩ : ∃ ln, E - s = ln := ⟨_, rfl⟩
  have HRc : Hid (∀ W, Fr [] w W → Rd W (some ⟨b, o + s, none⟩) ((l.drop s).take ln)) := Lib.hid fun W hW => (Rd.cut hcell s ln).later hW (by simp)
  have HLc : Hid (((l.drop s).take ln).length = ln) := Lib.hid (by simp; omega)
  have HLn : Hid (p + q = ln) := Lib.hid (by omega)
  have HPa : Hid ((((l.drop s).take ln).drop 0).take p = cp) := Lib.hid (by rw [hp4, List.drop_zero, List.take_take, Nat.min_eq_left (by omega)])
  have HCa : Hid (q ≠ 0 → (((l.drop s).take ln).drop p).take q = cc) := Lib.hid fun h0 => by
    rw [hc4, if_neg h0, List.drop_take, List.drop_drop, List.take_take, Nat.min_eq_left (by omega)]
  have q1 : (s : Int) ≤ E := by omega
  have q2 : (E : Int) ≤ c := by omega
  have q3 : s ≤ E := by omega
  have q4 : E ≤ c := by omega
  have q5 : ¬ c = s := by omega
  have hq0 : (q == 0) = true ∨ (q == 0) = false := by cases (q == 0) <;> simp
  obtain ⟨bq, hbq⟩ : ∃ bq, (q == 0) = bq := ⟨_, rfl⟩
  have hq1 : ((q : Int) == 0) = bq := by rw [← hbq, Bool.eq_iff_iff]; simp
  have HBq := Lib.hid hbq
  clear hl1 hl2 hp4 hc4 hn hr hEe hEs hE' hq0
  rw [hbq]
  clear hbq
  obtain ⟨z, hz⟩ : ∃ z, w.heap.size = z := ⟨_, rfl⟩
  have hb0 := Blk.fresh w 32 #[.int .i64 0, .int .i64 0, .slice none 0 0, .slice none 0 0, .bool false]
  rw [hz] at hb0
  have hz1 := hb0.lt
  have HB0 := Lib.hid hb0
  have HF0 := Lib.hid ((Fr.refl [] w).alloc (.cells #[.int .i64 0, .int .i64 0, .slice none 0 0, .slice none 0 0, .bool false] 32))
  clear hb0
  go_enter Try.func17, Try.ntmps17
  go_wp2_with fail
  generalize w.alloc _ = w0 at *
  (with_reducible refine (K1.out w0 (HR.out.later HF0.out (by simp))).mono ?_)
  rintro e w1 ⟨rfl, k, rfl⟩
  have hd : Fr [] w0 (w0.drewN k) := (Fr.refl [] w0).drewN k
  have HB1 := Lib.hid (HB0.out.fr hd (by simp))
  have HF1 := Lib.hid (HF0.out.tr hd)
  have hz2 := hd.size
  generalize w0.drewN k = w1 at *
  clear hd HB0 HF0
  go_wp2_with fail
  (with_reducible refine (K2.out w1 (HR.out.later HF1.out (by simp))).mono ?_)
  rintro e w2 ⟨rfl, rfl⟩
  go_wp2_with fail
  (with_reducible refine (K3.out w1 (HR.out.later HF1.out (by simp))).mono ?_)
  rintro e w2 ⟨rfl, rfl⟩
  go_wp2_with fail
  obtain ⟨u, hu⟩ : ∃ u, w1.heap.size = u := ⟨_, rfl⟩
  have hzu : z < u := by omega
  have hb := Blk.fresh w1 32 #[.int .i64 (cm : Int), .int .i64 (cr : Int), .slice none 0 0, .slice none 0 0, .bool bq]
  have hd : Fr [] w1 (w1.alloc (.cells #[.int .i64 (cm : Int), .int .i64 (cr : Int), .slice none 0 0, .slice none 0 0, .bool bq] 32)) := (Fr.refl [] w1).alloc _
  rw [hu] at hb ⊢
  have HZ2 := Lib.hid (HB1.out.fr hd (by simp))
  have HU2 := Lib.hid hb
  have hu2 := hb.lt
  have HF2 := Lib.hid (HF1.out.tr hd)
  generalize w1.alloc _ = w2 at *
  clear hd hb HB1 HF1 hz1 hz2
  (with_reducible refine (K4.out w2 (HR.out.later HF2.out (by simp))).mono ?_)
  rintro e w3 ⟨rfl, rfl⟩
  go_wp2_with fail
  (with_reducible refine (K5.out w2 (HR.out.later HF2.out (by simp))).mono ?_)
  rintro e w3 ⟨rfl, rfl⟩
  go_wp2_with fail
  (with_reducible refine (newReader_any (some ⟨b, o + s, none⟩) ln (c - s) ((l.drop s).take ln) w2 HLc.out (HRc.out w2 HF2.out) (by omega)).mono ?_)
  rintro e w3 ⟨rp, rfl, hr3, hrp, hf3⟩
  have hsz3 := hf3.size
  have HZ3 := Lib.hid (HZ2.out.fr hf3 (by simp))
  have HU3 := Lib.hid (HU2.out.fr hf3 (by simp))
  have HF3 := Lib.hid (HF2.out.tr hf3)
  have HR3 := Lib.hid hr3
  have hrg := hr3.ne
  have hrp3 := hr3.1.lt
  obtain ⟨gr, hgr⟩ : ∃ gr, w2.heap.size = gr := ⟨_, rfl⟩
  rw [hgr] at HR3 hrg hrp hu2 hsz3
  clear hr3 hf3 HZ2 HU2 HF2 HRc
  go_wp2_with fail
  (with_reducible refine (K6.out w3 (HR.out.later HF3.out (by simp))).mono ?_)
  rintro e w4 ⟨rfl, rfl⟩
  go_wp2_with fail
  (with_reducible refine (rbytes_ok w3 rp gr 0 p ((l.drop s).take ln) HR3.out (by rw [HLc.out]; omega) (by have := HLn.out; rw [HLc.out]; omega)).mono ?_)
  rintro e w4 ⟨g1, rfl, hg1, hd4, hr4, hf4⟩
  rw [HPa.out] at hd4
  rw [Nat.zero_add] at hr4
  have HZ4 := Lib.hid (HZ3.out.fr hf4 (by simp; omega))
  have hU4 := HU3.out.fr hf4 (by simp; omega)
  have HF4 : Hid (Fr [] w w4) := Lib.hid (HF3.out.trans hf4 (by simp; omega))
  have HR4 := Lib.hid hr4
  have HD4 := Lib.hid hd4
  have f2 := hU4.frozen 2
  have hsz4 := hf4.size
  have hg4 := hd4.lt
  obtain ⟨-, -, c2, -, -⟩ := blk5 hU4
  have HU4 := Lib.hid hU4
  clear hd4 hr4 hf4 hU4 HZ3 HU3 HF3 HR3
  go_upto_region 4 with fail
  have hst : Fr [u] w4 (w4.setCell ⟨u, 2, none⟩ (.slice (some ⟨g1, 0, none⟩) p p)) := (Fr.refl [u] w4).setCell (by simp) _
  have hU5 := (put5 HU4.out (.slice (some ⟨g1, 0, none⟩) p p)).1
  have HZ5 := Lib.hid (HZ4.out.fr hst (by simp; omega))
  have HR5 := Lib.hid (HR4.out.fr hst (by simp; omega) (by simp; omega))
  have HD5 := Lib.hid (HD4.out.fr hst (by simp; omega))
  have HF5 : Hid (Fr [] w (w4.setCell ⟨u, 2, none⟩ (.slice (some ⟨g1, 0, none⟩) p p))) := Lib.hid (HF4.out.trans hst (by simp; omega))
  have hsz5 := hst.size
  generalize w4.setCell ⟨u, 2, none⟩ (.slice (some ⟨g1, 0, none⟩) p p) = w5 at *
  have c4 := (blk5 hU5).2.2.2.2
  have c3 := (blk5 hU5).2.2.2.1
  have f3 := hU5.frozen 3
  have hu5 := hU5.lt
  have HU5 := Lib.hid hU5
  clear hst c2 f2 hU5 HZ4 HR4 HD4 HF4 HU4
  cases bq
  · have hq : q ≠ 0 := by have := HBq.out; simpa using this
    go_wp2_with fail
    (with_reducible refine (K3.out w5 (HR.out.later HF5.out (by simp))).mono ?_)
    rintro e w6 ⟨rfl, rfl⟩
    go_wp2_with fail
    (with_reducible refine (rbytes_ok w5 rp gr p q ((l.drop s).take ln) HR5.out (by rw [HLc.out]; omega) (by rw [HLc.out, HLn.out]; exact Nat.le_refl _)).mono ?_)
    rintro e w6 ⟨g2, rfl, hg2, he6, -, hf6⟩
    rw [HCa.out hq] at he6
    have HL2' : Hid (cc.length = q) := Lib.hid (by rw [HL2.out, if_neg hq])
    have HZ6 := Lib.hid (HZ5.out.fr hf6 (by simp; omega))
    have hU6 := HU5.out.fr hf6 (by simp; omega)
    have HF6 : Hid (Fr [] w w6) := Lib.hid (HF5.out.trans hf6 (by simp; omega))
    have HD6 := Lib.hid (HD5.out.fr hf6 (by simp; exact fun e => by subst e; exact absurd (HD5.out.other HR5.out.1 (by decide)) (by simp)))
    have HE6 := Lib.hid he6
    have f3 := hU6.frozen 3
    have hsz6 := hf6.size
    have hg6 := he6.lt
    have c3 := (blk5 hU6).2.2.2.1
    have HU6 := Lib.hid hU6
    clear he6 hf6 hU6 HZ5 HU5 HF5 HR5 HD5 c4
    go_upto_region 7 with fail
    have hst : Fr [u] w6 (w6.setCell ⟨u, 3, none⟩ (.slice (some ⟨g2, 0, none⟩) q q)) := (Fr.refl [u] w6).setCell (by simp) _
    have HU7 := Lib.hid (put5 HU6.out (.slice (some ⟨g2, 0, none⟩) q q)).2
    have HZ7 := Lib.hid (HZ6.out.fr hst (by simp; omega))
    have HD7 := Lib.hid (HD6.out.fr hst (by simp; omega))
    have HE7 := Lib.hid (HE6.out.fr hst (by simp; omega))
    have HF7 : Hid (Fr [] w (w6.setCell ⟨u, 3, none⟩ (.slice (some ⟨g2, 0, none⟩) q q))) := Lib.hid (HF6.out.trans hst (by simp; omega))
    generalize w6.setCell ⟨u, 3, none⟩ (.slice (some ⟨g2, 0, none⟩) q q) = w7 at *
    clear hst c3 f3 HZ6 HD6 HE6 HF6 HU6
    have hb9 := five_put HZ7.out (.int .i64 (cm : Int)) (.int .i64 (cr : Int)) (.slice (some ⟨g1, 0, none⟩) p p) (.slice (some ⟨g2, 0, none⟩) q q) (.bool false)
    have hf9 := five_fr w7 z (.int .i64 (cm : Int)) (.int .i64 (cr : Int)) (.slice (some ⟨g1, 0, none⟩) p p) (.slice (some ⟨g2, 0, none⟩) q q) (.bool false)
    obtain ⟨y0, y1, y2, y3, y4⟩ := blk5 HU7.out
    obtain ⟨c0, c1, c2, c3, c4⟩ := blk5 HZ7.out
    have f0 := HZ7.out.frozen 0
    have f1 := HZ7.out.frozen 1
    have f2 := HZ7.out.frozen 2
    have f3 := HZ7.out.frozen 3
    have f4 := HZ7.out.frozen 4
    have HB9 := Lib.hid hb9
    have HF9 := Lib.hid hf9
    clear hb9 hf9
    go_wp2
    have hd1 := HD7.out.fr HF9.out (by simp; omega)
    have hd2 := HE7.out.fr HF9.out (by simp; omega)
    have hf := HF7.out.trans (S := []) HF9.out (by simp; omega)
    obtain ⟨z0, z1, z2, z3, z4⟩ := blk5 HB9.out
    generalize ((((w7.setCell ⟨z, 0, none⟩ _).setCell ⟨z, 1, none⟩ _).setCell ⟨z, 2, none⟩ _).setCell ⟨z, 3, none⟩ _).setCell ⟨z, 4, none⟩ _ = w9 at *
    exact bodyPost_ret (v := .agg #[.int .i64 (cm : Int), .int .i64 (cr : Int), .slice (some ⟨g1, 0, none⟩) p p, .slice (some ⟨g2, 0, none⟩) q q, .bool false]) (by simp [results, Try.results17, go_sem, z0, z1, z2, z3, z4]) rfl ⟨_, rfl, g1, g2, by simp only [ctV]; rw [HL1.out, HL2'.out], by omega, by omega, by omega, hd1, hd2, hf⟩
  · have hq : q = 0 := by have := HBq.out; simpa using this
    obtain ⟨N, hN⟩ : ∃ N, blank.length = N := ⟨_, rfl⟩
    have hmk := make_blankN N hN
    have HCb : Hid (cc = blank) := Lib.hid (by rw [HC4.out, if_pos hq])
    have HL2' : Hid (cc.length = N) := Lib.hid (by rw [HCb.out, hN])
    clear hN
    have hne : ¬ u = w5.heap.size := by omega
    obtain ⟨g2, hg2e⟩ : ∃ g2, w5.heap.size = g2 := ⟨_, rfl⟩
    have hg2l := HD5.out.lt
    have hzl := HZ5.out.lt
    have HG2 := Lib.hid hg2e
    clear hg2e HR5
    go_upto_region 7 with fail
    have hg2e := HG2.out
    rw [hg2e]
    have hst : Fr [u] w5 (w5.setCell ⟨u, 3, none⟩ (.slice (some ⟨g2, 0, none⟩) N N)) := (Fr.refl [u] _).setCell (by simp) _
    have hal : Fr [] (w5.setCell ⟨u, 3, none⟩ (.slice (some ⟨g2, 0, none⟩) N N)) ((w5.setCell ⟨u, 3, none⟩ (.slice (some ⟨g2, 0, none⟩) N N)).alloc (.cells (bv blank).toArray 5)) := (Fr.refl [] _).alloc _
    have HU7 := Lib.hid ((put5 HU5.out (.slice (some ⟨g2, 0, none⟩) N N)).2.fr hal (by simp))
    have HZ7 := Lib.hid ((HZ5.out.fr hst (by simp; omega)).fr hal (by simp))
    have HD7 := Lib.hid ((HD5.out.fr hst (by simp; omega)).fr hal (by simp))
    have hfr := Blk.fresh (w5.setCell ⟨u, 3, none⟩ (.slice (some ⟨g2, 0, none⟩) N N)) 5 (bv blank).toArray
    have hsz : (w5.setCell ⟨u, 3, none⟩ (.slice (some ⟨g2, 0, none⟩) N N)).heap.size = g2 := by simp [World.setCell, hg2e]
    rw [hsz] at hfr
    have HE7 : Hid (Blk ((w5.setCell ⟨u, 3, none⟩ (.slice (some ⟨g2, 0, none⟩) N N)).alloc (.cells (bv blank).toArray 5)) g2 5 (bv cc).toArray) := Lib.hid (by
      rw [HCb.out]
      exact hfr)
    have HF7 : Hid (Fr [] w ((w5.setCell ⟨u, 3, none⟩ (.slice (some ⟨g2, 0, none⟩) N N)).alloc (.cells (bv blank).toArray 5))) := Lib.hid ((HF5.out.trans hst (by simp; omega)).tr hal)
    clear hst hal hfr hsz
    generalize (w5.setCell ⟨u, 3, none⟩ (.slice (some ⟨g2, 0, none⟩) N N)).alloc (.cells (bv blank).toArray 5) = w7 at *
    clear c3 f3 c4 HZ5 HD5 HF5 HU5 hmk hne
    have hb9 := five_put HZ7.out (.int .i64 (cm : Int)) (.int .i64 (cr : Int)) (.slice (some ⟨g1, 0, none⟩) p p) (.slice (some ⟨g2, 0, none⟩) N N) (.bool true)
    have hf9 := five_fr w7 z (.int .i64 (cm : Int)) (.int .i64 (cr : Int)) (.slice (some ⟨g1, 0, none⟩) p p) (.slice (some ⟨g2, 0, none⟩) N N) (.bool true)
    obtain ⟨y0, y1, y2, y3, y4⟩ := blk5 HU7.out
    obtain ⟨c0, c1, c2, c3, c4⟩ := blk5 HZ7.out
    have f0 := HZ7.out.frozen 0
    have f1 := HZ7.out.frozen 1
    have f2 := HZ7.out.frozen 2
    have f3 := HZ7.out.frozen 3
    have f4 := HZ7.out.frozen 4
    have HB9 := Lib.hid hb9
    have HF9 := Lib.hid hf9
    clear hb9 hf9
    go_wp2
    have hd1 := HD7.out.fr HF9.out (by simp; omega)
    have hd2 := HE7.out.fr HF9.out (by simp; omega)
    have hf := HF7.out.trans (S := []) HF9.out (by simp; omega)
    obtain ⟨z0, z1, z2, z3, z4⟩ := blk5 HB9.out
    generalize ((((w7.setCell ⟨z, 0, none⟩ _).setCell ⟨z, 1, none⟩ _).setCell ⟨z, 2, none⟩ _).setCell ⟨z, 3, none⟩ _).setCell ⟨z, 4, none⟩ _ = w9 at *
    have hV : Value.agg #[.int .i64 (cm : Int), .int .i64 (cr : Int), .slice (some ⟨g1, 0, none⟩) p p, .slice (some ⟨g2, 0, none⟩) N N, .bool true] = ctV ⟨cm, cr, cp, cc, true⟩ g1 g2 := by
      simp only [ctV]
      rw [HL1.out, HL2'.out]
    have hx1 : w.heap.size ≤ g1 := by omega
    have hx2 : w.heap.size ≤ g2 := by omega
    have hx3 : g1 ≠ g2 := by omega
    refine bodyPost_ret (v := .agg #[.int .i64 (cm : Int), .int .i64 (cr : Int), .slice (some ⟨g1, 0, none⟩) p p, .slice (some ⟨g2, 0, none⟩) N N, .bool true]) ?_ rfl ?_
    · simp [results, Try.results17, go_sem, z0, z1, z2, z3, z4]
    · exact ⟨_, rfl, g1, g2, hV, hx1, hx2, hx3, hd1, hd2, hf⟩

end Ine
end Go.Proofs.Ythabiaenaicppaa
