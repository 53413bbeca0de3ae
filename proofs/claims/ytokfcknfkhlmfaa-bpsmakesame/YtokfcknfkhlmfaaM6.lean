/-
  Contract of bps' Parse: of too few bytes, of another beginning, of a last sum that does not fit.
  Contract of bps' Parse, of a patch that was put together of actions.
-/
import Derived.Test.YtokfcknfkhlmfaaBpsActs
import Derived.Test.YtokfcknfkhlmfaaM5
namespace Go.Proofs.Ytokfcknfkhlmfaa
open Go.RowKit
namespace Bps
open Ups (word4 sum)

theorem blk6 {w : World} {b : Nat} {x0 x1 x2 x3 x4 x5 : Value} {t : TypeId} (h : Blk w b t #[x0, x1, x2, x3, x4, x5]) : w.cell? ⟨b, 0, none⟩ = some x0 ∧ w.cell? ⟨b, 1, none⟩ = some x1 ∧ w.cell? ⟨b, 2, none⟩ = some x2 ∧ w.cell? ⟨b, 3, none⟩ = some x3 ∧ w.cell? ⟨b, 4, none⟩ = some x4 ∧ w.cell? ⟨b, 5, none⟩ = some x5 :=
  ⟨by rw [h.cell]; rfl, by rw [h.cell]; rfl, by rw [h.cell]; rfl, by rw [h.cell]; rfl, by rw [h.cell]; rfl, by rw [h.cell]; rfl⟩
theorem put6 {w : World} {b : Nat} {x0 x1 x2 x3 x4 x5 : Value} {t : TypeId} (h : Blk w b t #[x0, x1, x2, x3, x4, x5]) (y0 y1 y2 y3 y4 y5 : Value) : Blk ((((((w.setCell ⟨b, 0, none⟩ y0).setCell ⟨b, 1, none⟩ y1).setCell ⟨b, 2, none⟩ y2).setCell ⟨b, 3, none⟩ y3).setCell ⟨b, 4, none⟩ y4).setCell ⟨b, 5, none⟩ y5) b t #[y0, y1, y2, y3, y4, y5] := by
  have := (((((h.put 0 y0).put 1 y1).put 2 y2).put 3 y3).put 4 y4).put 5 y5
  simpa only [List.setIfInBounds_toArray, List.set_cons_zero, List.set_cons_succ] using this
theorem put6_fr (w : World) (b : Nat) (y0 y1 y2 y3 y4 y5 : Value) : Fr [b] w ((((((w.setCell ⟨b, 0, none⟩ y0).setCell ⟨b, 1, none⟩ y1).setCell ⟨b, 2, none⟩ y2).setCell ⟨b, 3, none⟩ y3).setCell ⟨b, 4, none⟩ y4).setCell ⟨b, 5, none⟩ y5) :=
  ((((((Fr.refl [b] w).setCell (by simp) _).setCell (by simp) _).setCell (by simp) _).setCell (by simp) _).setCell (by simp) _).setCell (by simp) _

/-- The zero patch. -/
def zeroP : Value := .agg #[.int .i64 0, .int .i64 0, .int .u32 0, .int .u32 0, .slice none 0 0, .slice none 0 0]
def zeroC : Array Value := #[.int .i64 0, .int .i64 0, .int .u32 0, .int .u32 0, .slice none 0 0, .slice none 0 0]

/-- What Parse leaves where it fails. -/
def PRefused (w : World) (x : Int) (e : Ending) (w' : World) : Prop := e = .returned (.tuple #[zeroP, .int .i64 x]) ∧ Fr [] w w'

set_option maxHeartbeats 1000000 in
theorem parse_short (w : World) (A : Option Addr) (n c : Nat) (hn : n < 19) : Calls Try.prog 26 #[.slice A n c] w (PRefused w 3) := by
  have e1 : (n : Int) < 19 := by omega
  have e2 : ¬ (16777216 : Int) < n := by omega
  obtain ⟨s, hs⟩ : ∃ s, w.heap.size = s := ⟨_, rfl⟩
  have hb := Blk.fresh w 70 zeroC
  rw [hs] at hb
  have HB := Lib.hid (blk6 hb)
  have HF := Lib.hid ((Fr.refl [] w).alloc (.cells zeroC 70))
  unfold zeroC at HB HF
  clear hb
  go_enter Try.func26, Try.ntmps26
  go_wp2
  obtain ⟨z0, z1, z2, z3, z4, z5⟩ := HB.out
  generalize w.alloc _ = W at *
  exact bodyPost_ret (v := .tuple #[zeroP, .int .i64 3]) (by simp [results, Try.results26, go_sem, z0, z1, z2, z3, z4, z5, zeroP]) rfl ⟨rfl, HF.out⟩

set_option maxHeartbeats 1000000 in
theorem parse_form (w : World) (A : Option Addr) (n c : Nat) (l : List UInt8) (hn : l.length = n) (hr : Rd w A l) (h18 : 19 ≤ n) (hmx : n ≤ 16777216) (hc : n ≤ c) (hb : l.take 4 ≠ [66, 80, 83, 49]) : Calls Try.prog 26 #[.slice A n c] w (PRefused w 3) := by
  have e1 : ¬ (n : Int) < 19 := by omega
  have e0 : ¬ (16777216 : Int) < n := by omega
  have e2 : (4 : Int) ≤ c := by omega
  have e3 : 4 ≤ c := by omega
  have hne : (l.take 4 == [66, 80, 83, 49]) = false := by simpa using hb
  obtain ⟨s, hs⟩ : ∃ s, w.heap.size = s := ⟨_, rfl⟩
  have hb := Blk.fresh w 70 zeroC
  rw [hs] at hb
  have HB := Lib.hid (blk6 hb)
  have HF := Lib.hid ((Fr.refl [] w).alloc (.cells zeroC 70))
  unfold zeroC at HB HF
  have hss := run_str (P := Try.prog) 22 9 5 (cap := c) Try.underlying22 Try.underlying5 Try.underlying9 (rd_take (hr.later HF.out (by simp)) 4)
  rw [show (l.take 4).length = 4 by simp; omega] at hss
  clear hb hr hn
  go_enter Try.func26, Try.ntmps26
  go_wp2
  obtain ⟨z0, z1, z2, z3, z4, z5⟩ := HB.out
  generalize w.alloc _ = W at *
  exact bodyPost_ret (v := .tuple #[zeroP, .int .i64 3]) (by simp [results, Try.results26, go_sem, z0, z1, z2, z3, z4, z5, zeroP]) rfl ⟨rfl, HF.out⟩

set_option maxRecDepth 100000 in
set_option maxHeartbeats 1000000 in
theorem parse_sum (w : World) (A : Option Addr) (n c : Nat) (l : List UInt8) (hn : l.length = n) (hr : Rd w A l) (h18 : 19 ≤ n) (hc : n ≤ c) (hc2 : c ≤ maxLen) (hmx : n ≤ 16777216) (hb : l.take 4 = [66, 80, 83, 49]) (hS : word4 (l.drop (n - 4)) ≠ sum (l.take (n - 4))) :
    Calls Try.prog 26 #[.slice A n c] w (PRefused w 4) := by
  obtain ⟨b, o, rfl, hcell⟩ := hr (by omega)
  have e1 : ¬ (n : Int) < 19 := by omega
  have e0 : ¬ (16777216 : Int) < n := by omega
  have e2 : (4 : Int) ≤ c := by omega
  have e3 : 4 ≤ c := by omega
  have hne : (l.take 4 == [66, 80, 83, 49]) = true := by simp [hb]
  obtain ⟨t, ht⟩ : ∃ t, n - 12 = t := ⟨_, rfl⟩
  have ht1 : (n : Int) - 12 = (t : Int) := by omega
  have ht2 : n - t = 12 := by omega
  have ht3 : (t : Int) ≤ c := by omega
  have ht5 : ¬ c = t := by omega
  have ht6 : (t : Int) ≤ n := by omega
  have ht8 : t ≤ c := by omega
  have ht9 : t ≤ n := by omega
  obtain ⟨f, hf⟩ : ∃ f, n - 4 = f := ⟨_, rfl⟩
  have hf1 : (n : Int) - 4 = (f : Int) := by omega
  have hf2 : f ≤ c := by omega
  have hf3 : (f : Int) ≤ c := by omega
  rw [hf] at hS
  have hwf : IntKind.i64.wrap (f : Int) = (f : Int) := by rw [IntKind.wrap_i64]; omega
  have hf0 : (0 : Int) ≤ f := by omega
  have HRt : Hid (∀ W, Fr [] w W → Rd W (some ⟨b, o + t, none⟩) (l.drop t)) := Lib.hid (by
    intro W hW
    have h1 := Rd.cut hcell t (l.length - t)
    rw [List.take_of_length_le (by simp)] at h1
    exact h1.later hW (by simp))
  have HLt : Hid ((l.drop t).length = 12) := Lib.hid (by rw [List.length_drop]; omega)
  have HR0 : Hid (∀ W, Fr [] w W → Rd W (some ⟨b, o, none⟩) (l.take f)) := Lib.hid fun W hW => (rd_take hr f).later hW (by simp)
  have HLf : Hid ((l.take f).length = f) := Lib.hid (by rw [List.length_take]; omega)
  have HD : Hid ((l.drop t).drop 8 = l.drop f) := Lib.hid (by rw [List.drop_drop]; congr 1; omega)
  unfold sum at hS
  obtain ⟨X, hX⟩ : ∃ X, word4 (l.drop f) = X := ⟨_, rfl⟩
  obtain ⟨Y, hY⟩ : ∃ Y, Crc.next 0#32 (l.take f) = Y := ⟨_, rfl⟩
  rw [← HD.out] at hX
  have HX := Lib.hid hX
  have HY := Lib.hid hY
  rw [show word4 (l.drop f) = X by rw [← HD.out, hX], hY] at hS
  have hXY : (Crc.u X == Crc.u Y) = false := by simp; exact fun h => hS (Crc.u_inj h)
  unfold maxLen at hc2
  obtain ⟨s, hs⟩ : ∃ s, w.heap.size = s := ⟨_, rfl⟩
  have hb0 := Blk.fresh w 70 zeroC
  rw [hs] at hb0
  have HB := Lib.hid hb0
  have HF := Lib.hid ((Fr.refl [] w).alloc (.cells zeroC 70))
  unfold zeroC at HB HF
  have hss := run_str (P := Try.prog) 22 9 5 (cap := c) Try.underlying22 Try.underlying5 Try.underlying9 (rd_take (hr.later HF.out (by simp)) 4)
  rw [show (l.take 4).length = 4 by simp; omega] at hss
  clear hr hn hcell hX hY hb0
  go_enter Try.func26, Try.ntmps26
  go_wp2_with fail
  clear hss
  generalize w.alloc _ = w0 at *
  obtain ⟨X1, hX1⟩ : ∃ X1, word4 ((l.drop t).drop 0) = X1 := ⟨_, rfl⟩
  obtain ⟨X2, hX2⟩ : ∃ X2, word4 ((l.drop t).drop (0 + 4)) = X2 := ⟨_, rfl⟩
  have HX1 := Lib.hid hX1
  have HX2 := Lib.hid hX2
  clear hX1 hX2
  refine (newReader_any (some ⟨b, o + t, none⟩) 12 (c - t) (l.drop t) w0 HLt.out (HRt.out _ HF.out) (by decide)).mono ?_
  rintro e w1 ⟨rs, rfl, hr1, hrs, hf1⟩
  obtain ⟨gs, hgs⟩ : ∃ gs, w0.heap.size = gs := ⟨_, rfl⟩
  rw [hgs] at hr1 hrs
  have hs0 : s < gs := by rw [← hgs]; exact HB.out.lt
  have HR1 := Lib.hid hr1
  have HB1 := Lib.hid (HB.out.fr hf1 (by simp))
  have HF1 := Lib.hid (HF.out.tr hf1)
  have HLt2 : Hid ((l.drop t).length ≤ 1000000000) := Lib.hid (by rw [HLt.out]; decide)
  clear hr1 hf1 HB HF hgs
  go_wp2_with fail
  refine (takeSum_ok w1 rs gs 0 (l.drop t) HR1.out HLt2.out (by rw [HLt.out]; decide) X1 HX1.out).mono ?_
  rintro e w2 ⟨rfl, hr2, hf2⟩
  have HR2 := Lib.hid hr2
  have HB2 := Lib.hid (HB1.out.fr hf2 (by simp; omega))
  have HF2 : Hid (Fr [] w w2) := Lib.hid (HF1.out.trans hf2 (by simp; omega))
  clear hr2 hf2 HR1 HB1 HF1
  go_wp2_with fail
  refine (takeSum_ok w2 rs gs (0 + 4) (l.drop t) HR2.out HLt2.out (by rw [HLt.out]; decide) X2 HX2.out).mono ?_
  rintro e w3 ⟨rfl, hr3, hf3⟩
  have HR3 := Lib.hid hr3
  have HB3 := Lib.hid (HB2.out.fr hf3 (by simp; omega))
  have HF3 : Hid (Fr [] w w3) := Lib.hid (HF2.out.trans hf3 (by simp; omega))
  clear hr3 hf3 HR2 HB2 HF2
  go_wp2_with fail
  refine (takeSum_ok w3 rs gs (0 + 4 + 4) (l.drop t) HR3.out HLt2.out (by rw [HLt.out]; decide) X HX.out).mono ?_
  rintro e w4 ⟨rfl, -, hf4⟩
  have HB4 := Lib.hid (HB3.out.fr hf4 (by simp; omega))
  have HF4 : Hid (Fr [] w w4) := Lib.hid (HF3.out.trans hf4 (by simp; omega))
  clear hf4 HR3 HB3 HF3
  go_wp2_with fail
  refine (Crc.sum_any w4 (some ⟨b, o, none⟩) f c (l.take f) HLf.out (HR0.out _ HF4.out) (by omega)).mono ?_
  rintro e w5 ⟨rfl, hf5⟩
  rw [HY.out]
  have HB5 := Lib.hid (HB4.out.fr hf5 (by simp))
  have HF5 : Hid (Fr [] w w5) := Lib.hid (HF4.out.tr hf5)
  clear hf5 HB4 HF4
  obtain ⟨c0, c1, c2, c3, c4, c5⟩ := blk6 HB5.out
  have f0 := HB5.out.frozen 0
  have f1 := HB5.out.frozen 1
  have f2 := HB5.out.frozen 2
  have f3 := HB5.out.frozen 3
  have f4 := HB5.out.frozen 4
  have f5 := HB5.out.frozen 5
  go_wp2
  have hb9 := put6 HB5.out (.int .i64 0) (.int .i64 0) (.int .u32 0) (.int .u32 0) (.slice none 0 0) (.slice none 0 0)
  have hf9 := put6_fr w5 s (.int .i64 0) (.int .i64 0) (.int .u32 0) (.int .u32 0) (.slice none 0 0) (.slice none 0 0)
  obtain ⟨z0, z1, z2, z3, z4, z5⟩ := blk6 hb9
  generalize ((((((w5.setCell ⟨s, 0, none⟩ (.int .i64 0)).setCell ⟨s, 1, none⟩ (.int .i64 0)).setCell ⟨s, 2, none⟩ (.int .u32 0)).setCell ⟨s, 3, none⟩ (.int .u32 0)).setCell ⟨s, 4, none⟩ (.slice none 0 0)).setCell ⟨s, 5, none⟩ (.slice none 0 0)) = w9 at *
  exact bodyPost_ret (v := .tuple #[zeroP, .int .i64 4]) (by simp [results, Try.results26, go_sem, z0, z1, z2, z3, z4, z5, zeroP]) rfl ⟨rfl, HF5.out.trans hf9 (by simp; omega)⟩

end Bps
end Go.Proofs.Ytokfcknfkhlmfaa

namespace Go.Proofs.Ytokfcknfkhlmfaa
open Go.RowKit
namespace Bps
open Ups (word4 sum drop_of)
open Acts (ActOwn ActRd)

/-- What a patch tells and what it is made of. -/
structure Pat where
  i : Nat
  o : Nat
  s1 : BitVec 32
  s2 : BitVec 32
  mt : List UInt8
  L : List Act
def Pat.whole (P : Pat) : List UInt8 := Bps.whole P.i P.o P.s1 P.s2 P.mt P.L
/-- A patch as Parse takes it. -/
structure Fine (P : Pat) : Prop where
  ok : ∀ a ∈ P.L, Ok a
  tot : total P.L = P.o
  i : P.i ≤ 16777216
  o : P.o ≤ 16777216
  mt : P.mt.length ≤ 16777216
  all : P.whole.length ≤ 16777216

/-- What Parse leaves of such a patch. -/
def Parsed (w : World) (P : Pat) (e : Ending) (w' : World) : Prop :=
  ∃ gm A c, e = .returned (.tuple #[.agg #[.int .i64 (P.i : Int), .int .i64 (P.o : Int), .int .u32 (Crc.u P.s1), .int .u32 (Crc.u P.s2), .slice (some ⟨gm, 0, none⟩) P.mt.length P.mt.length, .slice A P.L.length c], .int .i64 0]) ∧ ActRd w' A P.L ∧ P.L.length ≤ c ∧ Fr [] w w'

set_option maxRecDepth 100000 in
set_option maxHeartbeats 2000000 in
theorem parse_made (w : World) (A : Option Addr) (n c : Nat) (P : Pat) (hP : Fine P) (hn : P.whole.length = n) (hr : Rd w A P.whole) (hc : n ≤ c) (hc2 : c ≤ maxLen) :
    Calls Try.prog 26 #[.slice A n c] w (Parsed w P) := by
  have h18 := whole_long P.i P.o P.s1 P.s2 P.mt P.L
  have hlen := whole_len P.i P.o P.s1 P.s2 P.mt P.L
  have hmx := hP.all
  change 19 ≤ P.whole.length at h18
  change P.whole.length = _ at hlen
  rw [hn] at h18 hlen hmx
  obtain ⟨b, o, rfl, hcell⟩ := hr (by omega)
  have e1 : ¬ (n : Int) < 19 := by omega
  have e0 : ¬ (16777216 : Int) < n := by omega
  have e2 : (4 : Int) ≤ c := by omega
  have e3 : 4 ≤ c := by omega
  have hne : (P.whole.take 4 == [66, 80, 83, 49]) = true := by simp [Pat.whole, whole_take4]
  obtain ⟨t, ht⟩ : ∃ t, n - 12 = t := ⟨_, rfl⟩
  have ht1 : (n : Int) - 12 = (t : Int) := by omega
  have ht2 : n - t = 12 := by omega
  have ht3 : (t : Int) ≤ c := by omega
  have ht4 : (4 : Int) ≤ t := by omega
  have ht7 : 4 ≤ t := by omega
  have ht5 : ¬ c = t := by omega
  have ht6 : (t : Int) ≤ n := by omega
  have ht8 : t ≤ c := by omega
  have ht9 : t ≤ n := by omega
  have hc4 : ¬ c = 4 := by omega
  obtain ⟨f, hf⟩ : ∃ f, n - 4 = f := ⟨_, rfl⟩
  have hf1 : (n : Int) - 4 = (f : Int) := by omega
  have hf2 : f ≤ c := by omega
  have hf3 : (f : Int) ≤ c := by omega
  have hwf : IntKind.i64.wrap (f : Int) = (f : Int) := by rw [IntKind.wrap_i64]; omega
  have hf0 : (0 : Int) ≤ f := by omega
  have HRt : Hid (∀ W, Fr [] w W → Rd W (some ⟨b, o + t, none⟩) (P.whole.drop t)) := Lib.hid (by
    intro W hW
    have h1 := Rd.cut hcell t (P.whole.length - t)
    rw [List.take_of_length_le (by simp)] at h1
    exact h1.later hW (by simp))
  have HLt : Hid ((P.whole.drop t).length = 12) := Lib.hid (by rw [List.length_drop]; omega)
  have HR0 : Hid (∀ W, Fr [] w W → Rd W (some ⟨b, o, none⟩) (P.whole.take f)) := Lib.hid fun W hW => (rd_take hr f).later hW (by simp)
  have HLf : Hid ((P.whole.take f).length = f) := Lib.hid (by rw [List.length_take]; omega)
  have HRi : Hid (∀ W, Fr [] w W → Rd W (some ⟨b, o + 4, none⟩) (inner P.i P.o P.mt P.L)) := Lib.hid (by
    intro W hW
    have h1 := Rd.cut hcell 4 (t - 4)
    have h2 := whole_inner P.i P.o P.s1 P.s2 P.mt P.L (t - 4) (by omega)
    rw [show (P.whole.drop 4).take (t - 4) = _ from h2] at h1
    exact h1.later hW (by simp))
  have HLi : Hid ((inner P.i P.o P.mt P.L).length = t - 4) := Lib.hid (by omega)
  have HX1 : Hid (word4 ((P.whole.drop t).drop 0) = P.s1) := Lib.hid (whole_sum1 P.i P.o P.s1 P.s2 P.mt P.L t (by omega))
  have HX2 : Hid (word4 ((P.whole.drop t).drop (0 + 4)) = P.s2) := Lib.hid (by rw [List.drop_drop]; exact whole_sum2 P.i P.o P.s1 P.s2 P.mt P.L t (by omega))
  obtain ⟨Y, hY⟩ : ∃ Y, Crc.next 0#32 (P.whole.take f) = Y := ⟨_, rfl⟩
  have HY := Lib.hid hY
  have HX : Hid (word4 ((P.whole.drop t).drop (0 + 4 + 4)) = Y) := Lib.hid (by
    rw [List.drop_drop, ← hY, show t + (0 + 4 + 4) = f by omega]
    exact whole_sum3 P.i P.o P.s1 P.s2 P.mt P.L f (by omega))
  have HD1 : Hid ((inner P.i P.o P.mt P.L).drop 0 = Var.putV P.i ++ (Var.putV P.o ++ (Var.putV P.mt.length ++ (P.mt ++ P.L.flatMap actB)))) := Lib.hid rfl
  have HD2 : Hid ((inner P.i P.o P.mt P.L).drop (end3 P.i P.o P.mt.length 0 + P.mt.length) = P.L.flatMap actB) := Lib.hid (by
    refine drop_of (pre := Var.putV P.i ++ Var.putV P.o ++ Var.putV P.mt.length ++ P.mt) (by unfold inner; simp [List.append_assoc]) _ (by unfold end3; simp; omega))
  have HK2 : Hid (end3 P.i P.o P.mt.length 0 + P.mt.length ≤ (inner P.i P.o P.mt P.L).length) := Lib.hid (by unfold inner end3; simp; omega)
  have HQ : Hid (∀ W gm A c, ActRd W A P.L → P.L.length ≤ c → Fr [] w W → Parsed w P (.returned (.tuple #[.agg #[.int .i64 (P.i : Int), .int .i64 (P.o : Int), .int .u32 (Crc.u P.s1), .int .u32 (Crc.u P.s2), .slice (some ⟨gm, 0, none⟩) P.mt.length P.mt.length, .slice A P.L.length c], .int .i64 0])) W) := Lib.hid fun W gm A c h1 h2 h3 => ⟨gm, A, c, rfl, h1, h2, h3⟩
  generalize Parsed w P = Q at *
  have Hok := Lib.hid hP.ok
  have Htot := Lib.hid hP.tot
  have hPi := hP.i
  have hPo := hP.o
  have hPm := hP.mt
  obtain ⟨Z, hZ⟩ : ∃ Z, inner P.i P.o P.mt P.L = Z := ⟨_, rfl⟩
  rw [hZ] at HRi HLi HD1 HD2 HK2
  generalize P.whole = l at *
  obtain ⟨i, oo, X1, X2, mt, L⟩ := P
  simp only at *
  unfold maxLen at hc2
  obtain ⟨s, hs⟩ : ∃ s, w.heap.size = s := ⟨_, rfl⟩
  have hb0 := Blk.fresh w 70 zeroC
  rw [hs] at hb0
  have HB := Lib.hid hb0
  have HF := Lib.hid ((Fr.refl [] w).alloc (.cells zeroC 70))
  unfold zeroC at HB HF
  have hss := run_str (P := Try.prog) 22 9 5 (cap := c) Try.underlying22 Try.underlying5 Try.underlying9 (rd_take (hr.later HF.out (by simp)) 4)
  rw [show (l.take 4).length = 4 by simp; omega] at hss
  clear hr hn hcell hY hb0 hP hlen hZ
  go_enter Try.func26, Try.ntmps26
  go_wp2_with fail
  clear hss
  generalize w.alloc _ = w0 at *
  refine (newReader_any (some ⟨b, o + t, none⟩) 12 (c - t) (l.drop t) w0 HLt.out (HRt.out _ HF.out) (by decide)).mono ?_
  rintro e w1 ⟨rs, rfl, hr1, hrs, hf1⟩
  obtain ⟨gs, hgs⟩ : ∃ gs, w0.heap.size = gs := ⟨_, rfl⟩
  rw [hgs] at hr1 hrs
  have hs0 : s < gs := by rw [← hgs]; exact HB.out.lt
  have HR1 := Lib.hid hr1
  have HB1 := Lib.hid (HB.out.fr hf1 (by simp))
  have HF1 := Lib.hid (HF.out.tr hf1)
  have HLt2 : Hid ((l.drop t).length ≤ 1000000000) := Lib.hid (by rw [HLt.out]; decide)
  clear hr1 hf1 HB HF hgs
  go_wp2_with fail
  refine (takeSum_ok w1 rs gs 0 (l.drop t) HR1.out HLt2.out (by rw [HLt.out]; decide) X1 HX1.out).mono ?_
  rintro e w2 ⟨rfl, hr2, hf2⟩
  have HR2 := Lib.hid hr2
  have HB2 := Lib.hid (HB1.out.fr hf2 (by simp; omega))
  have HF2 : Hid (Fr [] w w2) := Lib.hid (HF1.out.trans hf2 (by simp; omega))
  clear hr2 hf2 HR1 HB1 HF1
  go_wp2_with fail
  refine (takeSum_ok w2 rs gs (0 + 4) (l.drop t) HR2.out HLt2.out (by rw [HLt.out]; decide) X2 HX2.out).mono ?_
  rintro e w3 ⟨rfl, hr3, hf3⟩
  have HR3 := Lib.hid hr3
  have HB3 := Lib.hid (HB2.out.fr hf3 (by simp; omega))
  have HF3 : Hid (Fr [] w w3) := Lib.hid (HF2.out.trans hf3 (by simp; omega))
  clear hr3 hf3 HR2 HB2 HF2
  go_wp2_with fail
  refine (takeSum_ok w3 rs gs (0 + 4 + 4) (l.drop t) HR3.out HLt2.out (by rw [HLt.out]; decide) Y HX.out).mono ?_
  rintro e w4 ⟨rfl, -, hf4⟩
  have HB4 := Lib.hid (HB3.out.fr hf4 (by simp; omega))
  have HF4 : Hid (Fr [] w w4) := Lib.hid (HF3.out.trans hf4 (by simp; omega))
  clear hf4 HR3 HB3 HF3
  go_wp2_with fail
  refine (Crc.sum_any w4 (some ⟨b, o, none⟩) f c (l.take f) HLf.out (HR0.out _ HF4.out) (by omega)).mono ?_
  rintro e w5 ⟨rfl, hf5⟩
  rw [HY.out]
  have HB5 := Lib.hid (HB4.out.fr hf5 (by simp))
  have HF5 : Hid (Fr [] w w5) := Lib.hid (HF4.out.tr hf5)
  clear hf5 HB4 HF4
  have hn6 := Blk.fresh w5 70 #[.int .i64 0, .int .i64 0, .int .u32 (Crc.u X1), .int .u32 (Crc.u X2), .slice none 0 0, .slice none 0 0]
  have hal : Fr [] w5 (w5.alloc (.cells #[.int .i64 0, .int .i64 0, .int .u32 (Crc.u X1), .int .u32 (Crc.u X2), .slice none 0 0, .slice none 0 0] 70)) := (Fr.refl [] w5).alloc _
  have HB6 := Lib.hid (HB5.out.fr hal (by simp))
  have HF6 : Hid (Fr [] w _) := Lib.hid (HF5.out.tr hal)
  obtain ⟨b8, hb8⟩ : ∃ b8, w5.heap.size = b8 := ⟨_, rfl⟩
  rw [hb8] at hn6
  have hsb : s < b8 := by rw [← hb8]; exact HB5.out.lt
  have HN6 := Lib.hid hn6
  clear hn6 hal HB5 HF5
  go_wp2_with fail
  generalize w5.alloc _ = w6 at *
  clear hb8
  refine (newReader_any (some ⟨b, o + 4, none⟩) (t - 4) (c - 4) Z w6 HLi.out (HRi.out _ HF6.out) (by omega)).mono ?_
  rintro e w7 ⟨r, rfl, hr7, hrs7, hf7⟩
  obtain ⟨gr, hgr⟩ : ∃ gr, w6.heap.size = gr := ⟨_, rfl⟩
  rw [hgr] at hr7 hrs7
  have hb8g : b8 < gr := by rw [← hgr]; exact HN6.out.lt
  have HR7 := Lib.hid hr7
  have HB7 := Lib.hid (HB6.out.fr hf7 (by simp))
  have HN7 := Lib.hid (HN6.out.fr hf7 (by simp))
  have HF7 := Lib.hid (HF6.out.tr hf7)
  have HZl : Hid (Z.length ≤ 1000000000) := Lib.hid (by rw [HLi.out]; omega)
  clear hr7 hf7 HB6 HN6 HF6 hgr
  go_wp2_with fail
  refine (takeHead_ok w7 b8 r gr 0 Z mt (L.flatMap actB) i oo mt.length X1 X2 HN7.out HR7.out (Nat.zero_le _) HZl.out HD1.out rfl hPi hPo hPm).mono ?_
  rintro e w8 ⟨gm, rfl, hr8, hn8, hf8⟩
  have HR8 := Lib.hid hr8
  have HN8 := Lib.hid hn8
  have HB8 := Lib.hid (HB7.out.fr hf8 (by simp; omega))
  have HF8 : Hid (Fr [] w w8) := Lib.hid (HF7.out.trans hf8 (by simp; omega))
  clear hr8 hn8 hf8 HB7 HN7 HF7 HR7
  go_wp2_with fail
  refine (takeActions_ok w8 b8 r gr (end3 i oo mt.length 0 + mt.length) Z i oo X1 X2 (.slice (some ⟨gm, 0, none⟩) mt.length mt.length) L HN8.out HR8.out HK2.out HZl.out HD2.out Hok.out Htot.out hPo).mono ?_
  rintro e w9 ⟨V, rfl, hn9, ho9, hf9⟩
  obtain ⟨AL, cL, rfl, hrd, hlc, -, -⟩ := ho9.slice
  have HRd := Lib.hid hrd
  have HB9 := Lib.hid (HB8.out.fr hf9 (by simp; omega))
  have HF9 : Hid (Fr [] w w9) := Lib.hid (HF8.out.trans hf9 (by simp; omega))
  obtain ⟨y0, y1, y2, y3, y4, y5⟩ := blk6 hn9
  obtain ⟨c0, c1, c2, c3, c4, c5⟩ := blk6 HB9.out
  have f0 := HB9.out.frozen 0
  have f1 := HB9.out.frozen 1
  have f2 := HB9.out.frozen 2
  have f3 := HB9.out.frozen 3
  have f4 := HB9.out.frozen 4
  have f5 := HB9.out.frozen 5
  have HOw := Lib.hid ho9
  have hws9 : s < w8.heap.size := HB8.out.lt
  clear hn9 ho9 hf9 hrd HB8 HF8 HN8 HR8
  go_wp2
  have hb10 := put6 HB9.out (.int .i64 (i : Int)) (.int .i64 (oo : Int)) (.int .u32 (Crc.u X1)) (.int .u32 (Crc.u X2)) (.slice (some ⟨gm, 0, none⟩) mt.length mt.length) (.slice AL L.length cL)
  have hf10 := put6_fr w9 s (.int .i64 (i : Int)) (.int .i64 (oo : Int)) (.int .u32 (Crc.u X1)) (.int .u32 (Crc.u X2)) (.slice (some ⟨gm, 0, none⟩) mt.length mt.length) (.slice AL L.length cL)
  obtain ⟨z0, z1, z2, z3, z4, z5⟩ := blk6 hb10
  have hrd2 : ActRd ((((((w9.setCell ⟨s, 0, none⟩ (.int .i64 (i : Int))).setCell ⟨s, 1, none⟩ (.int .i64 (oo : Int))).setCell ⟨s, 2, none⟩ (.int .u32 (Crc.u X1))).setCell ⟨s, 3, none⟩ (.int .u32 (Crc.u X2))).setCell ⟨s, 4, none⟩ (.slice (some ⟨gm, 0, none⟩) mt.length mt.length)).setCell ⟨s, 5, none⟩ (.slice AL L.length cL)) AL L := by
    obtain ⟨A', c', hv, h, _⟩ := (HOw.out.fr hf10 (by simp; omega)).slice
    cases hv
    exact h
  generalize ((((((w9.setCell ⟨s, 0, none⟩ (.int .i64 (i : Int))).setCell ⟨s, 1, none⟩ (.int .i64 (oo : Int))).setCell ⟨s, 2, none⟩ (.int .u32 (Crc.u X1))).setCell ⟨s, 3, none⟩ (.int .u32 (Crc.u X2))).setCell ⟨s, 4, none⟩ (.slice (some ⟨gm, 0, none⟩) mt.length mt.length)).setCell ⟨s, 5, none⟩ (.slice AL L.length cL)) = w10 at *
  exact bodyPost_ret (v := .tuple #[.agg #[.int .i64 (i : Int), .int .i64 (oo : Int), .int .u32 (Crc.u X1), .int .u32 (Crc.u X2), .slice (some ⟨gm, 0, none⟩) mt.length mt.length, .slice AL L.length cL], .int .i64 0]) (by simp [results, Try.results26, go_sem, z0, z1, z2, z3, z4, z5]) rfl (HQ.out _ gm AL cL hrd2 hlc (HF9.out.trans hf10 (by simp; omega)))

end Bps
end Go.Proofs.Ytokfcknfkhlmfaa
