/-
  Contracts of crc's Next and Sum. Conditions: the length is that of a slice.
  Contract of bps' Parse: of too few bytes, of another beginning, of a last sum that does not fit.
-/
import Derived.Test.YtokfcknfkhlmfaaJ22
import Derived.Test.YtokfcknfkhlmfaaJ21
namespace Go.Proofs.Ytokfcknfkhlmfaa.Crc
open Go.RowKit

theorem run_take (r : BitVec 32) (l : List UInt8) (k : Nat) (x : UInt8) (h : l[k]? = some x) : run r (l.take (k + 1)) = upd (run r (l.take k)) x := by
  obtain ⟨hk, e⟩ := List.getElem?_eq_some_iff.1 h
  rw [take_snoc l k hk, run_snoc, e]

theorem nots_u (a : BitVec 32) : bits .xor .u32 IntKind.u32.max (u a) = u (~~~ a) := by
  have h : IntKind.u32.max = u (BitVec.allOnes 32) := by decide
  rw [h, xor_u, BitVec.xor_comm, BitVec.xor_allOnes]

set_option maxHeartbeats 1000000 in
set_option maxRecDepth 100000 in
theorem next_any (w : World) (s : BitVec 32) (A : Option Addr) (n c : Nat) (l : List UInt8) (hn : l.length = n) (hr : Rd w A l) (hm : n ≤ 1000000000) :
    Calls Try.prog 43 #[.int .u32 (u s), .slice A n c] w fun e w' => e = .returned (.int .u32 (u (next s l))) ∧ Fr [] w w' := by
  obtain ⟨hz, hsz⟩ := zero_of_info info35
  clear hsz
  have hzs : (Array.replicate 256 (Value.int .u32 0)).size = 256 := by simp
  generalize (Array.replicate 256 (Value.int .u32 0)) = Z at *
  have HZS := Lib.hid hzs
  have HR := Lib.hid hr
  have HN := Lib.hid hn
  clear hzs hr hn
  go_enter Try.func43, Try.ntmps43
  go_wp2_with fail
  refine (table_any _).mono ?_
  rintro e w1 ⟨rfl, hf1⟩
  have HF1 := Lib.hid hf1
  clear hf1
  have hst := storeRow (Blk.fresh w1 124 Z) (HZS.out.trans tabA_size.symm) tabA_one
  rw [World.setRow_alloc_new] at hst
  have hts := tabA_size
  have HB : Hid (Blk (w1.alloc (.cells tabA 124)) w1.heap.size 124 tabA) := Blk.fresh w1 124 tabA
  have HF2 : Hid (Fr [] w (w1.alloc (.cells tabA 124))) := HF1.out.alloc _
  have H0 := Lib.hid (nots_u s)
  go_wp2
  clear hst hts hz
  generalize w1.alloc (.cells tabA 124) = w2 at *
  generalize w1.heap.size = g at *
  rw [H0.out]
  go_loop [6, 8, 14] (fun v _ i => ∃ k : Nat, k ≤ n ∧ i = .int .i64 k ∧ v = .int .u32 (u (run (~~~ s) (l.take k)))) (fun _ _ i => n - (intOf i).toNat)
  case atStart => exact ⟨0, Nat.zero_le _, rfl, rfl⟩
  case round =>
    obtain ⟨k, hk, rfl, rfl⟩ := hrel
    by_cases hlt : k < n
    · obtain ⟨b, o, x, rfl, hx, hc⟩ := (HR.out.fr HF2.out (by simp)).at k (by rw [HN.out]; omega)
      have HX := Lib.hid (run_take (~~~ s) l k x hx)
      clear hx
      generalize run (~~~ s) (l.take k) = r at *
      have hi := index_u r x
      have hil := index_lt r x
      have HT := Lib.hid (table_u r x)
      generalize (r.toNat % 256) ^^^ x.toNat = m at *
      have ht := HB.out.cell m
      rw [tabA_get m hil] at ht
      go_wp2
      exact ⟨⟨k + 1, by omega, by go_num, by rw [HX.out, HT.out]⟩, by simp [intOf]; omega⟩
    · obtain rfl : k = n := by omega
      have H1 := Lib.hid (nots_u (run (~~~ s) (l.take k)))
      have HL : Hid (l.take k = l) := List.take_of_length_le (by rw [HN.out]; omega)
      go_wp2
      go_ret
      exact ⟨by rw [H1.out, HL.out]; rfl, HF2.out⟩

theorem zero_u : (0 : Int) = u 0#32 := by decide

set_option maxHeartbeats 400000 in
theorem sum_any (w : World) (A : Option Addr) (n c : Nat) (l : List UInt8) (hn : l.length = n) (hr : Rd w A l) (hm : n ≤ 1000000000) :
    Calls Try.prog 27 #[.slice A n c] w fun e w' => e = .returned (.int .u32 (u (next 0#32 l))) ∧ Fr [] w w' := by
  have HR := Lib.hid hr
  have HN := Lib.hid hn
  clear hr hn
  go_enter Try.func27, Try.ntmps27
  go_wp2_with fail
  rw [show Value.int .u32 (0 : Int) = Value.int .u32 (u 0#32) from congrArg _ zero_u]
  refine (next_any w 0#32 A n c l HN.out HR.out hm).mono ?_
  rintro e w1 ⟨rfl, hf⟩
  have HF := Lib.hid hf
  clear hf
  go_wp2
  go_ret
  exact ⟨rfl, HF.out⟩

end Go.Proofs.Ytokfcknfkhlmfaa.Crc

namespace Go.Proofs.Ytokfcknfkhlmfaa
open Go.RowKit
namespace Bps
open Ups (word4 sum)

theorem blk6 {w : World} {b : Nat} {x0 x1 x2 x3 x4 x5 : Value} {t : TypeId} (h : Blk w b t #[x0, x1, x2, x3, x4, x5]) : w.cell? ⟨b, 0, none⟩ = some x0 ∧ w.cell? ⟨b, 1, none⟩ = some x1 ∧ w.cell? ⟨b, 2, none⟩ = some x2 ∧ w.cell? ⟨b, 3, none⟩ = some x3 ∧ w.cell? ⟨b, 4, none⟩ = some x4 ∧ w.cell? ⟨b, 5, none⟩ = some x5 :=
  ⟨by rw [h.cell]; rfl, by rw [h.cell]; rfl, by rw [h.cell]; rfl, by rw [h.cell]; rfl, by rw [h.cell]; rfl, by rw [h.cell]; rfl⟩
theorem put6 {w : World} {b : Nat} {x0 x1 x2 x3 x4 x5 : Value} {t : TypeId} (h : Blk w b t #[x0, x1, x2, x3, x4, x5]) (y0 y1 y2 y3 y4 y5 : Value) : Blk ((((((w.setCell ⟨b, 0, none⟩ y0).setCell ⟨b, 1, none⟩ y1).setCell ⟨b, 2, none⟩ y2).setCell ⟨b, 3, none⟩ y3).setCell ⟨b, 4, none⟩ y4).setCell ⟨b, 5, none⟩ y5) b t #[y0, y1, y2, y3, y4, y5] := by
  have := (((((h.put 0 y0).put 1 y1).put 2 y2).put 3 y3).put 4 y4).put 5 y5
  simpa only [List.setIfInBounds_toArray, List.set_cons_zero, List.set_cons_succ] using this
theorem put6_fr (w : World) (b : Nat) (y0 y1 y2 y3 y4 y5 : Value) : Fr [b] w ((((((w.setCell ⟨b, 0, none⟩ y0).setCell ⟨b, 1, none⟩ y1).setCell ⟨b, 2, none⟩ y2).setCell ⟨b, 3, none⟩ y3).setCell ⟨b, 4, none⟩ y4).setCell ⟨b, 5, none⟩ y5) :=
  ((((((Fr.refl [b] w).setCell (by simp) _).setCell (by simp) _).setCell (by simp) _).setCell (by simp) _).setCell (by simp) _).setCell (by simp) _

/-- The zero patch. -/
def zeroP : Value := .agg #[.int .i64 0, .int .i64 0, .int .u32 0, .int .u32 0, .slice none 0 0, .slice none 0 0]
def zeroC : Array Value := #[.int .i64 0, .int .i64 0, .int .u32 0, .int .u32 0, .slice none 0 0, .slice none 0 0]

/-- What Parse leaves where it fails. -/
def PRefused (w : World) (x : Int) (e : Ending) (w' : World) : Prop := e = .returned (.tuple #[zeroP, .int .i64 x]) ∧ Fr [] w w'

set_option maxHeartbeats 1000000 in
theorem parse_short (w : World) (A : Option Addr) (n c : Nat) (hn : n < 19) : Calls Try.prog 26 #[.slice A n c] w (PRefused w 3) := by
  have e1 : (n : Int) < 19 := by omega
  have e2 : ¬ (16777216 : Int) < n := by omega
  obtain ⟨s, hs⟩ : ∃ s, w.heap.size = s := ⟨_, rfl⟩
  have hb := Blk.fresh w 70 zeroC
  rw [hs] at hb
  have HB := Lib.hid (blk6 hb)
  have HF := Lib.hid ((Fr.refl [] w).alloc (.cells zeroC 70))
  unfold zeroC at HB HF
  clear hb
  go_enter Try.func26, Try.ntmps26
  go_wp2
  obtain ⟨z0, z1, z2, z3, z4, z5⟩ := HB.out
  generalize w.alloc _ = W at *
  exact bodyPost_ret (v := .tuple #[zeroP, .int .i64 3]) (by simp [results, Try.results26, go_sem, z0, z1, z2, z3, z4, z5, zeroP]) rfl ⟨rfl, HF.out⟩

set_option maxHeartbeats 1000000 in
theorem parse_form (w : World) (A : Option Addr) (n c : Nat) (l : List UInt8) (hn : l.length = n) (hr : Rd w A l) (h18 : 19 ≤ n) (hmx : n ≤ 16777216) (hc : n ≤ c) (hb : l.take 4 ≠ [66, 80, 83, 49]) : Calls Try.prog 26 #[.slice A n c] w (PRefused w 3) := by
  have e1 : ¬ (n : Int) < 19 := by omega
  have e0 : ¬ (16777216 : Int) < n := by omega
  have e2 : (4 : Int) ≤ c := by omega
  have e3 : 4 ≤ c := by omega
  have hne : (l.take 4 == [66, 80, 83, 49]) = false := by simpa using hb
  obtain ⟨s, hs⟩ : ∃ s, w.heap.size = s := ⟨_, rfl⟩
  have hb := Blk.fresh w 70 zeroC
  rw [hs] at hb
  have HB := Lib.hid (blk6 hb)
  have HF := Lib.hid ((Fr.refl [] w).alloc (.cells zeroC 70))
  unfold zeroC at HB HF
  have hss := run_str (P := Try.prog) 22 9 5 (cap := c) Try.underlying22 Try.underlying5 Try.underlying9 (rd_take (hr.later HF.out (by simp)) 4)
  rw [show (l.take 4).length = 4 by simp; omega] at hss
  clear hb hr hn
  go_enter Try.func26, Try.ntmps26
  go_wp2
  obtain ⟨z0, z1, z2, z3, z4, z5⟩ := HB.out
  generalize w.alloc _ = W at *
  exact bodyPost_ret (v := .tuple #[zeroP, .int .i64 3]) (by simp [results, Try.results26, go_sem, z0, z1, z2, z3, z4, z5, zeroP]) rfl ⟨rfl, HF.out⟩

set_option maxRecDepth 100000 in
set_option maxHeartbeats 1000000 in
theorem parse_sum (w : World) (A : Option Addr) (n c : Nat) (l : List UInt8) (hn : l.length = n) (hr : Rd w A l) (h18 : 19 ≤ n) (hc : n ≤ c) (hc2 : c ≤ maxLen) (hmx : n ≤ 16777216) (hb : l.take 4 = [66, 80, 83, 49]) (hS : word4 (l.drop (n - 4)) ≠ sum (l.take (n - 4))) :
    Calls Try.prog 26 #[.slice A n c] w (PRefused w 4) := by
  obtain ⟨b, o, rfl, hcell⟩ := hr (by omega)
  have e1 : ¬ (n : Int) < 19 := by omega
  have e0 : ¬ (16777216 : Int) < n := by omega
  have e2 : (4 : Int) ≤ c := by omega
  have e3 : 4 ≤ c := by omega
  have hne : (l.take 4 == [66, 80, 83, 49]) = true := by simp [hb]
  obtain ⟨t, ht⟩ : ∃ t, n - 12 = t := ⟨_, rfl⟩
  have ht1 : (n : Int) - 12 = (t : Int) := by omega
  have ht2 : n - t = 12 := by omega
  have ht3 : (t : Int) ≤ c := by omega
  have ht5 : ¬ c = t := by omega
  have ht6 : (t : Int) ≤ n := by omega
  have ht8 : t ≤ c := by omega
  have ht9 : t ≤ n := by omega
  obtain ⟨f, hf⟩ : ∃ f, n - 4 = f := ⟨_, rfl⟩
  have hf1 : (n : Int) - 4 = (f : Int) := by omega
  have hf2 : f ≤ c := by omega
  have hf3 : (f : Int) ≤ c := by omega
  rw [hf] at hS
  have hwf : IntKind.i64.wrap (f : Int) = (f : Int) := by rw [IntKind.wrap_i64]; omega
  have hf0 : (0 : Int) ≤ f := by omega
  have HRt : Hid (∀ W, Fr [] w W → Rd W (some ⟨b, o + t, none⟩) (l.drop t)) := Lib.hid (by
    intro W hW
    have h1 := Rd.cut hcell t (l.length - t)
    rw [List.take_of_length_le (by simp)] at h1
    exact h1.later hW (by simp))
  have HLt : Hid ((l.drop t).length = 12) := Lib.hid (by rw [List.length_drop]; omega)
  have HR0 : Hid (∀ W, Fr [] w W → Rd W (some ⟨b, o, none⟩) (l.take f)) := Lib.hid fun W hW => (rd_take hr f).later hW (by simp)
  have HLf : Hid ((l.take f).length = f) := Lib.hid (by rw [List.length_take]; omega)
  have HD : Hid ((l.drop t).drop 8 = l.drop f) := Lib.hid (by rw [List.drop_drop]; congr 1; omega)
  unfold sum at hS
  obtain ⟨X, hX⟩ : ∃ X, word4 (l.drop f) = X := ⟨_, rfl⟩
  obtain ⟨Y, hY⟩ : ∃ Y, Crc.next 0#32 (l.take f) = Y := ⟨_, rfl⟩
  rw [← HD.out] at hX
  have HX := Lib.hid hX
  have HY := Lib.hid hY
  rw [show word4 (l.drop f) = X by rw [← HD.out, hX], hY] at hS
  have hXY : (Crc.u X == Crc.u Y) = false := by simp; exact fun h => hS (Crc.u_inj h)
  unfold maxLen at hc2
  obtain ⟨s, hs⟩ : ∃ s, w.heap.size = s := ⟨_, rfl⟩
  have hb0 := Blk.fresh w 70 zeroC
  rw [hs] at hb0
  have HB := Lib.hid hb0
  have HF := Lib.hid ((Fr.refl [] w).alloc (.cells zeroC 70))
  unfold zeroC at HB HF
  have hss := run_str (P := Try.prog) 22 9 5 (cap := c) Try.underlying22 Try.underlying5 Try.underlying9 (rd_take (hr.later HF.out (by simp)) 4)
  rw [show (l.take 4).length = 4 by simp; omega] at hss
  clear hr hn hcell hX hY hb0
  go_enter Try.func26, Try.ntmps26
  go_wp2_with fail
  clear hss
  generalize w.alloc _ = w0 at *
  obtain ⟨X1, hX1⟩ : ∃ X1, word4 ((l.drop t).drop 0) = X1 := ⟨_, rfl⟩
  obtain ⟨X2, hX2⟩ : ∃ X2, word4 ((l.drop t).drop (0 + 4)) = X2 := ⟨_, rfl⟩
  have HX1 := Lib.hid hX1
  have HX2 := Lib.hid hX2
  clear hX1 hX2
  refine (newReader_any (some ⟨b, o + t, none⟩) 12 (c - t) (l.drop t) w0 HLt.out (HRt.out _ HF.out) (by decide)).mono ?_
  rintro e w1 ⟨rs, rfl, hr1, hrs, hf1⟩
  obtain ⟨gs, hgs⟩ : ∃ gs, w0.heap.size = gs := ⟨_, rfl⟩
  rw [hgs] at hr1 hrs
  have hs0 : s < gs := by rw [← hgs]; exact HB.out.lt
  have HR1 := Lib.hid hr1
  have HB1 := Lib.hid (HB.out.fr hf1 (by simp))
  have HF1 := Lib.hid (HF.out.tr hf1)
  have HLt2 : Hid ((l.drop t).length ≤ 1000000000) := Lib.hid (by rw [HLt.out]; decide)
  clear hr1 hf1 HB HF hgs
  go_wp2_with fail
  refine (takeSum_ok w1 rs gs 0 (l.drop t) HR1.out HLt2.out (by rw [HLt.out]; decide) X1 HX1.out).mono ?_
  rintro e w2 ⟨rfl, hr2, hf2⟩
  have HR2 := Lib.hid hr2
  have HB2 := Lib.hid (HB1.out.fr hf2 (by simp; omega))
  have HF2 : Hid (Fr [] w w2) := Lib.hid (HF1.out.trans hf2 (by simp; omega))
  clear hr2 hf2 HR1 HB1 HF1
  go_wp2_with fail
  refine (takeSum_ok w2 rs gs (0 + 4) (l.drop t) HR2.out HLt2.out (by rw [HLt.out]; decide) X2 HX2.out).mono ?_
  rintro e w3 ⟨rfl, hr3, hf3⟩
  have HR3 := Lib.hid hr3
  have HB3 := Lib.hid (HB2.out.fr hf3 (by simp; omega))
  have HF3 : Hid (Fr [] w w3) := Lib.hid (HF2.out.trans hf3 (by simp; omega))
  clear hr3 hf3 HR2 HB2 HF2
  go_wp2_with fail
  refine (takeSum_ok w3 rs gs (0 + 4 + 4) (l.drop t) HR3.out HLt2.out (by rw [HLt.out]; decide) X HX.out).mono ?_
  rintro e w4 ⟨rfl, -, hf4⟩
  have HB4 := Lib.hid (HB3.out.fr hf4 (by simp; omega))
  have HF4 : Hid (Fr [] w w4) := Lib.hid (HF3.out.trans hf4 (by simp; omega))
  clear hf4 HR3 HB3 HF3
  go_wp2_with fail
  refine (Crc.sum_any w4 (some ⟨b, o, none⟩) f c (l.take f) HLf.out (HR0.out _ HF4.out) (by omega)).mono ?_
  rintro e w5 ⟨rfl, hf5⟩
  rw [HY.out]
  have HB5 := Lib.hid (HB4.out.fr hf5 (by simp))
  have HF5 : Hid (Fr [] w w5) := Lib.hid (HF4.out.tr hf5)
  clear hf5 HB4 HF4
  obtain ⟨c0, c1, c2, c3, c4, c5⟩ := blk6 HB5.out
  have f0 := HB5.out.frozen 0
  have f1 := HB5.out.frozen 1
  have f2 := HB5.out.frozen 2
  have f3 := HB5.out.frozen 3
  have f4 := HB5.out.frozen 4
  have f5 := HB5.out.frozen 5
  go_wp2
  have hb9 := put6 HB5.out (.int .i64 0) (.int .i64 0) (.int .u32 0) (.int .u32 0) (.slice none 0 0) (.slice none 0 0)
  have hf9 := put6_fr w5 s (.int .i64 0) (.int .i64 0) (.int .u32 0) (.int .u32 0) (.slice none 0 0) (.slice none 0 0)
  obtain ⟨z0, z1, z2, z3, z4, z5⟩ := blk6 hb9
  generalize ((((((w5.setCell ⟨s, 0, none⟩ (.int .i64 0)).setCell ⟨s, 1, none⟩ (.int .i64 0)).setCell ⟨s, 2, none⟩ (.int .u32 0)).setCell ⟨s, 3, none⟩ (.int .u32 0)).setCell ⟨s, 4, none⟩ (.slice none 0 0)).setCell ⟨s, 5, none⟩ (.slice none 0 0)) = w9 at *
  exact bodyPost_ret (v := .tuple #[zeroP, .int .i64 4]) (by simp [results, Try.results26, go_sem, z0, z1, z2, z3, z4, z5, zeroP]) rfl ⟨rfl, HF5.out.trans hf9 (by simp; omega)⟩

end Bps
end Go.Proofs.Ytokfcknfkhlmfaa
