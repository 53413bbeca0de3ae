/-
  picklocklaw07.BpsSound returns true for every input: what is made has the size and the sum that the patch tells of it, and it is made of an input that has those that it tells; meta changes nothing of it. No condition.
-/
import Derived.Test.YtkefckoffnlkcaaBpsShown
import Derived.Test.YtkefckoffnlkcaaBpsCut
import Derived.Test.YtkefckoffnlkcaaBpsRefMake
import Derived.Test.YtkefckoffnlkcaaOctSame
namespace Go.Proofs.Ytkefckoffnlkcaa
open Go.RowKit
namespace Bps
open Acts (ActRd ActOwn)
open Ups (sum)

theorem own_maxS {w : World} {B n c : Nat} {A : Option Addr} {l : List UInt8} (h : Own w B (.slice A n c) l) : c ≤ maxLen := by
  obtain ⟨_, _, e, _, _, _, h, _⟩ := h.slice
  injection e with e1 e2 e3
  rw [e3]
  exact h
theorem actOwn_rd {w : World} {B n c : Nat} {T : TypeId} {A : Option Addr} {L : List Act} (h : ActOwn w B T (.slice A n c) L) : ActRd w A L := by
  obtain ⟨_, _, e, hr, _⟩ := h.slice
  injection e with e1 e2 e3
  rw [e1]
  exact hr
/-- What was made of a patch whose sums fit, or nothing. -/
theorem applyR_fits (x made : List UInt8) (L : List Act) (h1 : ∀ l, makeA L x = some l → made = l) (_h2 : makeA L x = none → made = []) :
    applyR x.length (sum x) (sum made) L x = (0, made) ∧ made.length = total L ∨ applyR x.length (sum x) (sum made) L x = (5, []) := by
  cases h : makeA L x with
  | none => exact .inr (applyR_none ⟨rfl, rfl⟩ h)
  | some l =>
    have e := h1 l h
    subst e
    exact .inl ⟨applyR_ok ⟨rfl, rfl⟩ h rfl, makeA_length h⟩

set_option maxRecDepth 100000 in
set_option maxHeartbeats 4000000 in
theorem sound_walk (a0 : Option Addr) (n0 cap0 : Nat) (zs : List Raw) (a1 : Option Addr) (cap1 : Nat) (l : List UInt8) (a2 : Option Addr) (cap2 : Nat) (k : List UInt8) (w : World) (hn0 : zs.length = n0) (hr0 : RawIn w a0 zs) (hlc0 : n0 ≤ cap0) (hcm0 : cap0 ≤ maxLen) (hr : Rd w a1 l) (hc : a1 = none → cap1 = 0) (hlc : l.length ≤ cap1) (_hcm : cap1 ≤ maxLen) (hr1 : Rd w a2 k) (hc1 : a2 = none → cap2 = 0) (hlc1 : k.length ≤ cap2) (_hcm1 : cap2 ≤ maxLen) :
    Calls Try.prog 3 #[.slice a0 n0 cap0, .slice a1 l.length cap1, .slice a2 k.length cap2] w fun e w' => e = .returned (.bool true) ∧ Below w.heap.size w w' := by
  obtain ⟨i0, hi, hz0, hz1, hz2⟩ := info_parts info5
  have HR0 := Lib.hid hr0
  have Hn0 := Lib.hid hn0
  have Hlc0 := Lib.hid hlc0
  have Hcm0 := Lib.hid hcm0
  have HR := Lib.hid hr
  have HC := Lib.hid hc
  have HR1 := Lib.hid hr1
  have HC1 := Lib.hid hc1
  have HL := Lib.hid (take_len l 300 (by omega))
  have HL1 := Lib.hid (take_len k 300 (by omega))
  have hcnt : (min (l.length : Int) 300).toNat ≤ 300 := by omega
  have hcnt1 : (min (k.length : Int) 300).toNat ≤ 300 := by omega
  unfold maxLen at _hcm _hcm1
  clear hr hc hr1 hc1 hr0 hn0 hlc0 hcm0
  go_enter Try.func3, Try.ntmps3
  go_wp2_with (first
    | (go_at_call 6; refine (shown7 _).mono ?_; rintro e w1 ⟨rfl, hf1⟩; have HF1 := Lib.hid hf1; have hs1 := hf1.size; clear hf1)
    | (at_builtin; refine wpList_app _ rfl (.tmp 23) (.tmp 28) 23 rfl w.heap.size i0 Try.underlying23 hi hz0 hz1 hz2 (.slice (some ⟨w1.heap.size, 0, none⟩) 0 0) [] rfl (Own.empty w1 _ hs1) a1 _ cap1 (l.take (min (l.length : Int) 300).toNat) rfl HL.out (rd_take (HR.out.later (HF1.out.alloc _) (by simp)) _) HC.out (by simp; omega) (by simp; omega) ?_))
  intro A1 c1 w2 ho2 hf2 hlies
  have HF2 : Hid (Fr [] w w2) := Lib.hid ((HF1.out.alloc _).trans hf2 (by simp [Value.ownBlock]; omega))
  have HM1 : Hid ((l.take (min (l.length : Int) 300).toNat).length = (min (l.length : Int) 300).toNat) := HL.out
  have HX : Hid (Rd w2 A1 (l.take (min (l.length : Int) 300).toNat)) := Lib.hid ho2.rd
  have HXn : Hid (A1 = none → c1 = 0) := Lib.hid (Ref.own_nilcap ho2)
  have HXc : Hid ((min (l.length : Int) 300).toNat ≤ c1 ∧ c1 ≤ maxLen) := Lib.hid ⟨by have := ho2.caps.1; simp at this; omega, own_maxS ho2⟩
  have hs2 := HF2.out.size
  clear ho2 hf2 HR HC HL hlc hs1 hlies
  generalize (min (l.length : Int) 300).toNat = n1 at *
  generalize l.take n1 = x at *
  go_wp2_with (at_builtin; refine wpList_app _ rfl (.tmp 30) (.tmp 35) 23 rfl w.heap.size i0 Try.underlying23 hi hz0 hz1 hz2 (.slice (some ⟨w2.heap.size, 0, none⟩) 0 0) [] rfl (Own.empty w2 _ hs2) a2 _ cap2 (k.take (min (k.length : Int) 300).toNat) rfl HL1.out (rd_take (HR1.out.later (HF2.out.alloc _) (by simp)) _) HC1.out (by simp; omega) (by simp; omega) ?_)
  intro A2 c2 w3 ho3 hf3 hlies
  have HF3' : Hid (Fr [] w2 w3) := Lib.hid (((Fr.refl [] w2).alloc _).trans hf3 (by simp [Value.ownBlock]))
  have HF3 : Hid (Fr [] w w3) := Lib.hid (HF2.out.tr HF3'.out)
  have HM2 : Hid ((k.take (min (k.length : Int) 300).toNat).length = (min (k.length : Int) 300).toNat) := HL1.out
  have HY : Hid (Rd w3 A2 (k.take (min (k.length : Int) 300).toNat)) := Lib.hid ho3.rd
  have HYn : Hid (A2 = none → c2 = 0) := Lib.hid (Ref.own_nilcap ho3)
  have HYc : Hid ((min (k.length : Int) 300).toNat ≤ c2 ∧ c2 ≤ maxLen) := Lib.hid ⟨by have := ho3.caps.1; simp at this; omega, own_maxS ho3⟩
  have HX3 := Lib.hid (HX.out.later HF3'.out (by simp))
  clear ho3 hf3 HR1 HC1 HL1 hlc1 hs2 hlies HX
  generalize (min (k.length : Int) 300).toNat = n2 at *
  generalize k.take n2 = y at *
  go_wp2_with fail
  refine (cut_any w3 a0 n0 cap0 zs Hn0.out (HR0.out.later HF3.out) Hlc0.out Hcm0.out).mono ?_
  rintro e w4 ⟨A4, c4, L, rfl, ho4, hok, htot, hf4⟩
  have HF4 := Lib.hid (HF3.out.tr hf4)
  have HX4 := Lib.hid (HX3.out.later hf4 (by simp))
  have HY4 := Lib.hid (HY.out.later hf4 (by simp))
  have HA4 := Lib.hid (actOwn_rd ho4)
  have Hok := Lib.hid hok
  obtain ⟨tt, htt⟩ : ∃ tt, total L = tt := ⟨_, rfl⟩
  obtain ⟨Ln, hLn⟩ : ∃ Ln, L.length = Ln := ⟨_, rfl⟩
  have Htt := Lib.hid htt
  have HLn := Lib.hid hLn
  rw [htt] at htot ⊢
  rw [hLn]
  clear ho4 hf4 HX3 HY htt hLn hok
  go_wp2_with fail
  refine (Crc.rsum_any w4 A1 n1 c1 x HM1.out HX4.out (by omega)).mono ?_
  rintro e w5 ⟨rfl, rfl⟩
  obtain ⟨S1, hS1⟩ : ∃ S1, Crc.next 0#32 x = S1 := ⟨_, rfl⟩
  rw [hS1]
  have HS1 : Hid (sum x = S1) := Lib.hid hS1
  clear hS1
  obtain ⟨bp, hbp⟩ : ∃ bp, w4.heap.size = bp := ⟨_, rfl⟩
  have hn5 := Blk.fresh w4 30 #[.int .i64 (n1 : Int), .int .i64 (tt : Int), .int .u32 (Crc.u S1), .int .u32 0, .slice none 0 0, .slice A4 Ln c4]
  rw [hbp] at hn5
  have hal5 : Fr [] w4 (w4.alloc (.cells #[.int .i64 (n1 : Int), .int .i64 (tt : Int), .int .u32 (Crc.u S1), .int .u32 0, .slice none 0 0, .slice A4 Ln c4] 30)) := (Fr.refl [] w4).alloc _
  have HB5 := Lib.hid hn5
  have HX5 := Lib.hid (HX4.out.later hal5 (by simp))
  have HA5 := Lib.hid (HA4.out.later hal5 (by simp))
  have HG5 := Lib.hid hal5
  have hbw : w.heap.size ≤ bp := by rw [← hbp]; exact HF4.out.size
  have hb4 : w4.heap.size ≤ bp := by omega
  clear hn5 hal5
  go_wp2_with fail
  generalize w4.alloc _ = w5 at *
  refine (rmake_any w5 A4 Ln c4 A1 n1 c1 L x HLn.out HA5.out Hok.out (by rw [Htt.out]; omega) HM1.out HX5.out (by omega)).mono ?_
  rintro e w6 ⟨A6, c6, made, bb, rfl, ho6, hmd1, hmd2, hf6⟩
  have HRr := Lib.hid (applyR_fits x made L hmd1 hmd2)
  obtain ⟨md, hmd⟩ : ∃ md, made.length = md := ⟨_, rfl⟩
  have Hmd := Lib.hid hmd
  have hmdm : md ≤ 10000 := by
    rw [← hmd]
    cases hq : makeA L x with
    | none => rw [hmd2 hq]; simp
    | some l' => rw [hmd1 l' hq, makeA_length hq, Htt.out]; omega
  have HM6 := Lib.hid ho6.rd
  have HB6 := Lib.hid (HB5.out.fr hf6 (by simp))
  have HG6 := Lib.hid (HG5.out.tr hf6)
  rw [hmd]
  clear ho6 hf6 hmd1 hmd2 HB5 HX5 HA5 HG5 hmd
  obtain ⟨y0, y1, y2, y3, y4, y5⟩ := blk6 HB6.out
  have f3 := HB6.out.frozen 3
  go_wp2_with fail
  refine (Crc.rsum_any w6 A6 md c6 made Hmd.out HM6.out (by omega)).mono ?_
  rintro e w7 ⟨rfl, rfl⟩
  obtain ⟨S2, hS2⟩ : ∃ S2, Crc.next 0#32 made = S2 := ⟨_, rfl⟩
  rw [hS2]
  have HS2 : Hid (sum made = S2) := Lib.hid hS2
  clear hS2
  have hst : Fr [bp] w6 (w6.setCell ⟨bp, 3, none⟩ (.int .u32 (Crc.u S2))) := (Fr.refl [bp] w6).setCell (by simp) _
  have hb7 := HB6.out.put 3 (.int .u32 (Crc.u S2))
  simp only [List.setIfInBounds_toArray, List.set_cons_zero, List.set_cons_succ] at hb7
  have HB7 := Lib.hid hb7
  have HG7 : Hid (Fr [] w4 (w6.setCell ⟨bp, 3, none⟩ (.int .u32 (Crc.u S2)))) := Lib.hid (HG6.out.trans hst (by simp; exact hb4))
  rw [HM1.out, HS1.out, HS2.out] at HRr
  clear hst hb7 HB6 HG6 HM6
  go_upto_region 8 with fail
  clear y0 y1 y2 y3 y4 y5 f3
  generalize w6.setCell ⟨bp, 3, none⟩ (.int .u32 (Crc.u S2)) = w7 at *
  obtain ⟨y0, y1, y2, y3, y4, y5⟩ := blk6 HB7.out
  have f4 := HB7.out.frozen 4
  obtain ⟨P0, hP0⟩ : ∃ P0 : Pat, P0 = ⟨n1, tt, S1, S2, [], L⟩ := ⟨_, rfl⟩
  have HFi0 : Hid (Fine P0) := Lib.hid (by rw [hP0]; exact fine_of _ Hok.out Htt.out (by simp only; omega) (by simp only; omega) (by simp))
  have HWh0 := Lib.hid (rwhole_ok w7 P0 none 0 A4 c4 HFi0.out (by rw [hP0]; exact rd_nil _) (fun _ => rfl) (by rw [hP0]; exact HA4.out.later HG7.out (by simp)))
  have HPx0 : Hid (patA P0 none 0 A4 c4 = .agg #[.int .i64 (n1 : Int), .int .i64 (tt : Int), .int .u32 (Crc.u S1), .int .u32 (Crc.u S2), .slice none 0 0, .slice A4 Ln c4]) := Lib.hid (by rw [hP0, ← HLn.out]; rfl)
  rw [HPx0.out] at HWh0
  obtain ⟨N8, hN8⟩ : ∃ N8, P0.whole.length = N8 := ⟨_, rfl⟩
  have hN8m : N8 ≤ 16777216 := by rw [← hN8]; exact HFi0.out.all
  have HN8 := Lib.hid hN8
  have HAp0 : Hid (∀ z, applyR P0.i P0.s1 P0.s2 P0.L z = applyR n1 S1 S2 L z) := Lib.hid (by intro z; rw [hP0])
  clear hP0 hN8 HPx0
  go_wp2_with fail
  refine HWh0.out.mono ?_
  rintro e w8 ⟨A8, c8, rfl, ho8, hf8⟩
  rw [HN8.out] at ho8 ⊢
  have HO8 := Lib.hid ho8.rd
  have hc8 : N8 ≤ c8 := ho8.caps.1
  have hm8 := own_maxS ho8
  have hx8 : ∀ ad, A8 = some ad → ad.block ≠ bp := by
    intro ad e
    obtain ⟨_, _, ev, _, hb', _⟩ := ho8.slice
    injection ev with ev1 ev2 ev3
    subst ev1 ev3
    have := (ho8.lt _ (hb' ad e)).1
    have := HB7.out.lt
    omega
  have hb8 := HB7.out.fr hf8 (by simp)
  have HB8 := Lib.hid hb8
  have HG8 := Lib.hid (HG7.out.tr hf8)
  obtain ⟨x0, x1, x2, x3, x4, x5⟩ := blk6 hb8
  have g4 := hb8.frozen 4
  clear ho8 hf8 HWh0 HB7 HG7 y0 y1 y2 y3 y4 y5 f4 hb8
  obtain ⟨k5, hk5⟩ : ∃ k5, min n2 50 = k5 := ⟨_, rfl⟩
  have hk5i : min (n2 : Int) 50 = (k5 : Int) := by omega
  have hk5n : k5 ≤ n2 := by omega
  have hk5c : k5 ≤ c2 := by have := HYc.out.1; omega
  have hk5c' : (k5 : Int) ≤ c2 := by omega
  have hk50 : (0 : Int) ≤ k5 := by omega
  have hst : Fr [bp] w8 (w8.setCell ⟨bp, 4, none⟩ (.slice A2 k5 c2)) := (Fr.refl [bp] w8).setCell (by simp) _
  have hb9 := HB8.out.put 4 (.slice A2 k5 c2)
  simp only [List.setIfInBounds_toArray, List.set_cons_zero, List.set_cons_succ] at hb9
  have HB9 := Lib.hid hb9
  have HG9 : Hid (Fr [] w4 (w8.setCell ⟨bp, 4, none⟩ (.slice A2 k5 c2))) := Lib.hid (HG8.out.trans hst (by simp; exact hb4))
  have HO9 := Lib.hid (HO8.out.fr hst (fun ad e => by simp; exact hx8 ad e))
  clear hst hb9 HB8 HG8 HO8 hk5
  go_upto_region 10 with fail
  clear x0 x1 x2 x3 x4 x5 g4
  generalize w8.setCell ⟨bp, 4, none⟩ (.slice A2 k5 c2) = w9 at *
  obtain ⟨y0, y1, y2, y3, y4, y5⟩ := blk6 HB9.out
  have HYk : Hid ((y.take k5).length = k5) := Lib.hid (by rw [List.length_take, HM2.out]; omega)
  obtain ⟨P1, hP1⟩ : ∃ P1 : Pat, P1 = ⟨n1, tt, S1, S2, y.take k5, L⟩ := ⟨_, rfl⟩
  have HFi1 : Hid (Fine P1) := Lib.hid (by rw [hP1]; exact fine_of _ Hok.out Htt.out (by simp only; omega) (by simp only; omega) (by simp only; rw [HYk.out]; omega))
  have HWh1 := Lib.hid (rwhole_ok w9 P1 A2 c2 A4 c4 HFi1.out (by rw [hP1]; exact rd_take (HY4.out.later HG9.out (by simp)) k5) HYn.out (by rw [hP1]; exact HA4.out.later HG9.out (by simp)))
  have HPx1 : Hid (patA P1 A2 c2 A4 c4 = .agg #[.int .i64 (n1 : Int), .int .i64 (tt : Int), .int .u32 (Crc.u S1), .int .u32 (Crc.u S2), .slice A2 k5 c2, .slice A4 Ln c4]) := Lib.hid (by rw [hP1, ← HLn.out]; unfold patA; rw [HYk.out])
  rw [HPx1.out] at HWh1
  obtain ⟨N10, hN10⟩ : ∃ N10, P1.whole.length = N10 := ⟨_, rfl⟩
  have HN10 := Lib.hid hN10
  have HAp1 : Hid (∀ z, applyR P1.i P1.s1 P1.s2 P1.L z = applyR n1 S1 S2 L z) := Lib.hid (by intro z; rw [hP1])
  clear hP1 hN10 HPx1 HYk
  go_wp2_with fail
  refine HWh1.out.mono ?_
  rintro e w10 ⟨A10, c10, rfl, ho10, hf10⟩
  rw [HN10.out] at ho10 ⊢
  have HO10 := Lib.hid ho10.rd
  have hc10 : N10 ≤ c10 := ho10.caps.1
  have hm10 := own_maxS ho10
  have HB10 := Lib.hid (HB9.out.fr hf10 (by simp))
  have HG10 := Lib.hid (HG9.out.tr hf10)
  have HO8 := Lib.hid (HO9.out.later hf10 (by simp))
  clear ho10 hf10 HWh1 HB9 HG9 HO9 y0 y1 y2 y3 y4 y5 hx8
  -- what Apply tells of the input
  have HR2 : Hid (∃ E out, applyR n1 S1 S2 L x = (E, out) ∧ (E = 0 ∧ out.length = tt ∧ sum out = S2 ∨ E = 5 ∧ out = [])) := Lib.hid (by
    rcases HRr.out with ⟨h1, h2⟩ | h1
    · exact ⟨0, made, h1, .inl ⟨rfl, by rw [h2, Htt.out], HS2.out⟩⟩
    · exact ⟨5, [], h1, .inr ⟨rfl, rfl⟩⟩)
  obtain ⟨E, out, hEo, hEc⟩ := HR2.out
  have HEo := Lib.hid hEo
  have HEc := Lib.hid hEc
  obtain ⟨om, hom⟩ : ∃ om, out.length = om := ⟨_, rfl⟩
  have Hom := Lib.hid hom
  have homm : om ≤ 10000 := by rw [← hom]; rcases hEc with ⟨_, h, _⟩ | ⟨_, h⟩; omega; rw [h]; simp
  have HA11 := Lib.hid (apply_any w10 A8 A1 N8 c8 n1 c1 P0 x HFi0.out HN8.out HO8.out hc8 hm8 HM1.out (HX4.out.later HG10.out (by simp)) (by omega) HXn.out HXc.out.1 HXc.out.2)
  rw [HAp0.out, HEo.out] at HA11
  unfold AppliedB at HA11
  simp only at HA11
  rw [Hom.out] at HA11
  clear hEo hEc hom HR2
  go_wp2_with fail
  refine HA11.out.mono ?_
  rintro e w11 ⟨A11, c11, rfl, ho11, hf11⟩
  have HO11 := Lib.hid ho11.rd
  have HG11 := Lib.hid (HG10.out.tr hf11)
  have HB11 := Lib.hid (HB10.out.fr hf11 (by simp))
  have HO8' := Lib.hid (HO8.out.later hf11 (by simp))
  have HA12 := Lib.hid (apply_any w11 A10 A1 N10 c10 n1 c1 P1 x HFi1.out HN10.out (HO10.out.later hf11 (by simp)) hc10 hm10 HM1.out (HX4.out.later HG11.out (by simp)) (by omega) HXn.out HXc.out.1 HXc.out.2)
  rw [HAp1.out, HEo.out] at HA12
  unfold AppliedB at HA12
  simp only at HA12
  rw [Hom.out] at HA12
  clear ho11 hf11 HA11 HO8 HO10 HB10 HG10
  go_wp2_with fail
  refine HA12.out.mono ?_
  rintro e w12 ⟨A12, c12, rfl, ho12, hf12⟩
  have HO12 := Lib.hid ho12.rd
  have HG12 := Lib.hid (HG11.out.tr hf12)
  have HB12 := Lib.hid (HB11.out.fr hf12 (by simp))
  have HO8 := Lib.hid (HO8'.out.later hf12 (by simp))
  have HO11' := Lib.hid (HO11.out.later hf12 (by simp))
  have HCs : Hid (∀ W, Fr [] w12 W → Calls Try.prog 12 #[.slice A11 om c11, .slice A12 om c12] W fun e w' => e = .returned (.bool true) ∧ w' = W) := Lib.hid fun W hW => (same_eq W A11 A12 om om c11 c12 out Hom.out Hom.out (HO11'.out.later hW (by simp)) (HO12.out.later hW (by simp))).mono fun e w' ⟨h1, h2⟩ => ⟨h1, h2.symm⟩
  have HCm : Hid (∀ W, Fr [] w12 W → Calls Try.prog 8 #[.slice A11 om c11] W fun e w' => e = .returned (.int .u32 (Crc.u (sum out))) ∧ w' = W) := Lib.hid fun W hW => (Crc.rsum_any W A11 om c11 out Hom.out (HO11'.out.later hW (by simp)) (by omega)).mono fun e w' ⟨h1, h2⟩ => ⟨h1, h2.symm⟩
  obtain ⟨y0, y1, y2, y3, y4, y5⟩ := blk6 HB12.out
  clear ho12 hf12 HA12 HO11 HO12 HB11 HG11 HO8'
  go_upto_region 13 with fail
  go_cut [105] (fun s105 wx => s105 = .bool false ∧ Fr [] w12 wx)
  case first =>
    rcases HEc.out with ⟨rfl, h1, h2⟩ | ⟨rfl, h1⟩
    · have h3 : om = tt := by rw [← Hom.out, h1]
      subst h3
      rw [h2] at HCm
      clear h1 h2
      go_quiet (first | (go_at_call 12; exact Calls.quiet_of_same (HCs.out _ ((Fr.refl [] w12).drewN _))) | (go_at_call 8; exact Calls.quiet_of_same (HCm.out _ ((Fr.refl [] w12).drewN _))))
      go_wp2_with fail
      go_meet
      exact ⟨by simp, (Fr.refl [] w12).drewN _⟩
    · clear h1
      go_quiet (first | (go_at_call 12; exact Calls.quiet_of_same (HCs.out _ ((Fr.refl [] w12).drewN _))) | (go_at_call 8; exact Calls.quiet_of_same (HCm.out _ ((Fr.refl [] w12).drewN _))))
      go_wp2_with fail
      go_meet
      exact ⟨by simp, (Fr.refl [] w12).drewN _⟩
  case rest =>
    obtain ⟨rfl, hfc⟩ := hcut
    have HG13 := Lib.hid (HG12.out.tr hfc)
    have HB13 := Lib.hid (HB12.out.fr hfc (by simp))
    have HO13 := Lib.hid (HO8.out.later hfc (by simp))
    obtain ⟨w13, hw13⟩ : ∃ w13, w13 = wc := ⟨_, rfl⟩
    subst hw13
    clear hfc y0 y1 y2 y3 y4 y5 HB12 HG12 HO8 HCs HCm
    have HA14 := Lib.hid (apply_any w13 A8 A2 N8 c8 n2 c2 P0 y HFi0.out HN8.out HO13.out hc8 hm8 HM2.out (HY4.out.later HG13.out (by simp)) (by omega) HYn.out HYc.out.1 HYc.out.2)
    rw [HAp0.out] at HA14
    obtain ⟨R3, hR3⟩ : ∃ R3, applyR n1 S1 S2 L y = R3 := ⟨_, rfl⟩
    have HR3 := Lib.hid hR3
    rw [hR3] at HA14
    obtain ⟨E3, out3⟩ := R3
    unfold AppliedB at HA14
    simp only at HA14
    obtain ⟨om3, hom3⟩ : ∃ om3, out3.length = om3 := ⟨_, rfl⟩
    have Hom3 := Lib.hid hom3
    rw [hom3] at HA14
    clear hR3 hom3
    go_wp2_with fail
    refine HA14.out.mono ?_
    rintro e w14 ⟨A14, c14, rfl, ho14, hf14⟩
    have HG14 := Lib.hid (HG13.out.tr hf14)
    have HB14 := Lib.hid (HB13.out.fr hf14 (by simp))
    obtain ⟨S3, hS3⟩ : ∃ S3, sum y = S3 := ⟨_, rfl⟩
    have HS3 := Lib.hid hS3
    have HCy : Hid (∀ W, Fr [] w14 W → Calls Try.prog 8 #[.slice A2 n2 c2] W fun e w' => e = .returned (.int .u32 (Crc.u S3)) ∧ w' = W) := Lib.hid fun W hW => (Crc.rsum_any W A2 n2 c2 y HM2.out ((HY4.out.later HG14.out (by simp)).later hW (by simp)) (by omega)).mono fun e w' ⟨h1, h2⟩ => ⟨by rw [h1, ← hS3]; rfl, h2.symm⟩
    obtain ⟨y0, y1, y2, y3, y4, y5⟩ := blk6 HB14.out
    obtain ⟨Fb, hFb⟩ : ∃ Fb, decide (n2 = n1 ∧ S3 = S1) = Fb := ⟨_, rfl⟩
    have HFb := Lib.hid hFb
    clear ho14 hf14 HA14 HB13 HG13 HO13 hS3 hFb
    go_upto_region 16 with fail
    go_cut [21] (fun s21 wx => s21 = .bool Fb ∧ Fr [] w14 wx)
    case first =>
      by_cases h1 : n2 = n1
      · subst h1
        by_cases h2 : S3 = S1
        · subst h2
          go_quiet (first | (go_at_call 8; exact Calls.quiet_of_same (HCy.out _ ((Fr.refl [] w14).drewN _))))
          go_wp2_with fail
          go_meet
          exact ⟨by rw [← HFb.out]; simp, (Fr.refl [] w14).drewN _⟩
        · have h3 : (Crc.u S3 == Crc.u S1) = false := by simp; exact fun h => h2 (Crc.u_inj h)
          go_quiet (first | (go_at_call 8; exact Calls.quiet_of_same (HCy.out _ ((Fr.refl [] w14).drewN _))))
          go_wp2_with fail
          go_meet
          exact ⟨by rw [← HFb.out]; simp [h2], (Fr.refl [] w14).drewN _⟩
      · have h3 : ((n2 : Int) == (n1 : Int)) = false := by simp; omega
        go_quiet (fail)
        go_wp2_with fail
        go_meet
        exact ⟨by rw [← HFb.out]; simp [h1], (Fr.refl [] w14).drewN _⟩
    case rest =>
      obtain ⟨rfl, hfc⟩ := hcut
      have HFz : Hid (Fr [] w wc) := Lib.hid ((HF4.out.tr HG14.out).tr hfc)
      clear hfc y0 y1 y2 y3 y4 y5
      cases hq : Fb with
      | true =>
        go_wp2
        go_ret
        exact ⟨rfl, HFz.out.below (by simp) (Nat.le_refl _)⟩
      | false =>
        have hbad : ¬ (y.length = n1 ∧ sum y = S1) := by
          have := HFb.out
          rw [hq] at this
          rw [HM2.out, HS3.out]
          exact of_decide_eq_false this
        have h4 := HR3.out
        rw [applyR_sum hbad] at h4
        injection h4 with h5 h6
        subst h5 h6
        have h7 : om3 = 0 := by rw [← Hom3.out]; rfl
        subst h7
        clear hbad
        go_wp2
        go_ret
        exact ⟨rfl, HFz.out.below (by simp) (Nat.le_refl _)⟩

end Bps
end Go.Proofs.Ytkefckoffnlkcaa
