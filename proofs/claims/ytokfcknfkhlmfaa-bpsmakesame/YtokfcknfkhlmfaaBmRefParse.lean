/-
  Contract of the document's own Parse of layer 7, of a patch that was put together of actions.
-/
import Derived.Test.YtokfcknfkhlmfaaM2
namespace Go.Proofs.Ytokfcknfkhlmfaa
open Go.RowKit
namespace Bm
open Bps (Pat Fine Ok actB headN tailB total)
open Ups (le4 sum word4)
open Acts (ActOwn ActRd)

theorem RefR.rrd {w : World} {s g n c k : Nat} {l : List UInt8} (h : RefR w s g n c l k) : Var.RRd w s (some ⟨g, 0, none⟩) c l k := ⟨by rw [h.2.2.1]; exact h.1, h.2.1, by intro ad e; cases e; exact h.2.2.2.1⟩
theorem RefR.of {w : World} {s g n c k : Nat} {l : List UInt8} (h : Var.RRd w s (some ⟨g, 0, none⟩) c l k) (hn : l.length = n) (hc : n ≤ c) : RefR w s g n c l k := ⟨by rw [← hn]; exact h.1, h.2.1, hn, h.2.2 _ rfl, hc⟩

/-- What the reader of the document reads. -/
def inR (P : Pat) : List UInt8 := [66, 80, 83, 49] ++ Bps.inner P.i P.o P.mt P.L
theorem inR_take (P : Pat) (N : Nat) (h : P.whole.length = N + 12) : P.whole.take N = inR P := by
  have hl := Bps.whole_len P.i P.o P.s1 P.s2 P.mt P.L
  change P.whole.length = _ at hl
  have e : P.whole = inR P ++ (le4 P.s1 ++ (le4 P.s2 ++ le4 (sum (Bps.body P.i P.o P.s1 P.s2 P.mt P.L)))) := by
    unfold Pat.whole
    rw [Bps.whole_parts]
    unfold inR
    simp
  have hi : (inR P).length = N := by unfold inR; rw [List.length_append]; simp; omega
  rw [e, ← hi, List.take_left]

/-- What the document's Parse leaves. -/
def RParsed (w : World) (P : Pat) (e : Ending) (w' : World) : Prop :=
  ∃ M cm A cL, e = .returned (.tuple #[.agg #[.int .i64 (P.i : Int), .int .i64 (P.o : Int), .int .u32 (Crc.u P.s1), .int .u32 (Crc.u P.s2), .slice M P.mt.length cm, .slice A P.L.length cL], .int .i64 0]) ∧ Rd w' M P.mt ∧ ActRd w' A P.L ∧ P.L.length ≤ cL ∧ Fr [] w w'

/-- Between two actions. -/
structure RpI (wL : World) (P : Pat) (r g N c pb s0 : Nat) (pv : Array Value) (done rest : List Bps.Act) (k : Nat) (vL : Value) (W : World) : Prop where
  split : P.L = done ++ rest
  drop : (inR P).drop k = rest.flatMap actB
  kN : k ≤ N
  rdr : RefR W r g N c (inR P) k
  pat : Blk W pb 30 (pv.push vL)
  zero : Blk W s0 30 #[.int .i64 0, .int .i64 0, .int .u32 0, .int .u32 0, .slice none 0 0, .slice none 0 0]
  own : ActOwn W wL.heap.size 40 vL done
  fr : Fr [r, pb] wL W

theorem infoAct : (Try.prog.info? 40).map (fun i => (i.zero, i.size, i.bytes)) = some (some Acts.zeroV, 4, 48) := by kernel_rfl

set_option maxRecDepth 100000 in
set_option maxHeartbeats 4000000 in
theorem rparse_made (w : World) (g n c : Nat) (P : Pat) (hP : Fine P) (hn : P.whole.length = n) (hr : Rd w (some ⟨g, 0, none⟩) P.whole) (hc : n ≤ c) :
    Calls Try.prog 9 #[.slice (some ⟨g, 0, none⟩) n c] w (RParsed w P) := by
  have h18 := Bps.whole_long P.i P.o P.s1 P.s2 P.mt P.L
  have hlen := Bps.whole_len P.i P.o P.s1 P.s2 P.mt P.L
  have hmx := hP.all
  change 19 ≤ P.whole.length at h18
  change P.whole.length = _ at hlen
  rw [hn] at h18 hlen hmx
  have hgl : g < w.heap.size := by
    obtain ⟨b, o, e, hcell⟩ := hr (by omega)
    injection e with e
    injection e with e1 _
    subst e1
    exact World.block_lt_of_cell? w _ (hcell 0 (by omega))
  obtain ⟨s0, hs0⟩ : ∃ s0, w.heap.size = s0 := ⟨_, rfl⟩
  have hf1 : Fr [] w (w.alloc (.cells #[.int .i64 0, .int .i64 0, .int .u32 0, .int .u32 0, .slice none 0 0, .slice none 0 0] 30)) := (Fr.refl [] w).alloc _
  have hb1 := Blk.fresh w 30 #[.int .i64 0, .int .i64 0, .int .u32 0, .int .u32 0, .slice none 0 0, .slice none 0 0]
  rw [hs0] at hb1 hgl
  have HF1 := Lib.hid hf1
  have HB1 := Lib.hid hb1
  have HR := Lib.hid (fun W (hW : Fr [] w W) => hr.later hW (by simp))
  have hstr : ∀ W : World, Fr [] w W → (convert 22 9 (.slice (some ⟨g, 0, none⟩) 4 c)).run Try.prog W = .ok (.string ⟨#[66, 80, 83, 49]⟩) W := by
    intro W hW
    have h1 := rd_take (HR.out W hW) 4
    rw [show P.whole.take 4 = [66, 80, 83, 49] from Bps.whole_take4 _ _ _ _ _ _] at h1
    exact run_str (P := Try.prog) (w := W) 22 9 5 (cap := c) Try.underlying22 Try.underlying5 Try.underlying9 (l := [66, 80, 83, 49]) h1
  have HStr := Lib.hid hstr
  obtain ⟨f, hf⟩ : ∃ f, f + 4 = n := ⟨n - 4, by omega⟩
  obtain ⟨N, hN⟩ : ∃ N, N + 12 = n := ⟨n - 12, by omega⟩
  have e1 : ¬ (n : Int) < 19 := by omega
  have e0 : ¬ (16777216 : Int) < n := by omega
  have e2 : (4 : Int) ≤ c := by omega
  have e3 : 4 ≤ c := by omega
  have e4 : (n : Int) - 4 = (f : Int) := by omega
  have e5 : IntKind.i64.wrap (f : Int) = (f : Int) := by rw [IntKind.wrap_i64]; omega
  have e6 : (f : Int) ≤ c := by omega
  have e7 : f ≤ c := by omega
  have e8 : (0 : Int) ≤ f := by omega
  have e9 : (n : Int) - 12 = (N : Int) := by omega
  have e10 : IntKind.i64.wrap (N : Int) = (N : Int) := by rw [IntKind.wrap_i64]; omega
  have e11 : (N : Int) ≤ c := by omega
  have e12 : N ≤ c := by omega
  have e13 : (0 : Int) ≤ N := by omega
  obtain ⟨X, hX⟩ : ∃ X, word4 (P.whole.drop f) = X := ⟨_, rfl⟩
  have HS3 : Hid (sum (P.whole.take f) = X) := Lib.hid (by
    have := Bps.whole_sum3 P.i P.o P.s1 P.s2 P.mt P.L f (by omega)
    rw [← hX]
    exact this.symm)
  have HWd : Hid (∀ W, Fr [] w W → Calls Try.prog 22 #[.slice (some ⟨g, 0, none⟩) n c, .int .i64 (f : Int)] W fun e w' => e = .returned (.int .u32 (Crc.u X)) ∧ Fr [] W w') := Lib.hid fun W hW => by
    rw [← hX]
    exact word_any W g 0 n c f P.whole hn (by omega) (by omega) (HR.out W hW)
  have HSm : Hid (∀ W, Fr [] w W → Calls Try.prog 13 #[.slice (some ⟨g, 0, none⟩) f c] W fun e w' => e = .returned (.int .u32 (Crc.u X)) ∧ W = w') := Lib.hid fun W hW => by
    have := Crc.rsum_any W (some ⟨g, 0, none⟩) f c (P.whole.take f) (by rw [List.length_take]; omega) (rd_take (HR.out W hW) f) (by omega)
    rw [show Crc.next 0#32 (P.whole.take f) = X from HS3.out] at this
    exact this
  have Hn := Lib.hid hn
  clear hr hX hf1 hb1 hn hlen
  go_enter Try.func9, Try.ntmps9
  go_upto_region 1 with fail
  generalize w.alloc _ = w1 at *
  have hstr1 := HStr.out w1 HF1.out
  clear hstr
  go_upto_region 6 with fail
  go_cut [48] (fun s48 wx => s48 = .bool false ∧ Fr [] w1 wx)
  case first =>
    go_region_law (go_simp; first
      | (go_at_call 22; (with_reducible refine (HWd.out _ (by first | exact HF1.out.drew)).mono ?_); rintro e w2 ⟨rfl, hf2⟩; have HF2 : Hid (Fr [] w1 w2) := Lib.hid ((Fr.refl [] w1).drew.tr hf2); clear hf2)
      | (go_at_call 13; (with_reducible refine (HSm.out _ (by first | exact HF1.out.tr HF2.out | exact HF1.out.drew)).mono ?_); rintro e w3 ⟨rfl, rfl⟩))
    all_goals
      go_wp2_with fail
      go_meet
      exact ⟨by simp, HF2.out⟩
  case rest =>
    obtain ⟨rfl, hf2⟩ := hcut
    have HF2 := Lib.hid hf2
    have HBz := Lib.hid (HB1.out.fr hf2 (by simp))
    clear hf2 HB1 hstr1 HWd HSm e4 e5 e6 e7 e8
    obtain ⟨r, hr⟩ : ∃ r, wc.heap.size = r := ⟨_, rfl⟩
    have hsr : s0 < r := by have := HBz.out.lt; omega
    have HW12 : Hid (∀ (W : World) (t : Nat) (Z : BitVec 32), t + 4 ≤ n → Z = word4 (P.whole.drop t) → Fr [] w W → Calls Try.prog 22 #[.slice (some ⟨g, 0, none⟩) n c, .int .i64 (t : Int)] W fun e w' => e = .returned (.int .u32 (Crc.u Z)) ∧ Fr [] W w') := Lib.hid fun W t Z h1 h2 hW => by
      rw [h2]
      exact word_any W g 0 n c t P.whole Hn.out h1 (by omega) (HR.out W hW)
    go_upto_region 9 with fail
    have HR3 : Hid (RefR (wc.alloc (.cells #[.slice (some ⟨g, 0, none⟩) N c, .int .i64 4] 63)) r g N c (inR P) 4) := Lib.hid (by
      have h1 := Blk.fresh wc 63 #[.slice (some ⟨g, 0, none⟩) N c, .int .i64 4]
      rw [hr] at h1
      have h2 := rd_take (HR.out _ ((HF1.out.tr HF2.out).alloc (.cells #[.slice (some ⟨g, 0, none⟩) N c, .int .i64 4] 63))) N
      have h3 : P.whole.length = N + 12 := by rw [Hn.out]; omega
      rw [inR_take P N h3] at h2
      refine ⟨h1, h2, ?_, by omega, by omega⟩
      rw [← inR_take P N h3, List.length_take]
      omega)
    have HF3 : Hid (Fr [] w (wc.alloc (.cells #[.slice (some ⟨g, 0, none⟩) N c, .int .i64 4] 63))) := Lib.hid ((HF1.out.tr HF2.out).alloc _)
    have HBz3 := Lib.hid (HBz.out.fr ((Fr.refl [] wc).alloc (.cells #[.slice (some ⟨g, 0, none⟩) N c, .int .i64 4] 63)) (by simp))
    generalize wc.alloc (.cells #[.slice (some ⟨g, 0, none⟩) N c, .int .i64 4] 63) = w3 at *
    clear HBz HF2
    have hil : (inR P).length = N := HR3.out.2.2.1
    have Hil := Lib.hid hil
    -- the three numbers
    have HTk : Hid (∀ (W : World) (k u k' : Nat) (rest : List UInt8), RefR W r g N c (inR P) k → k ≤ N → u ≤ Var.most → (inR P).drop k = Var.putV u ++ rest → k + (Var.putV u).length = k' →
        Calls Try.prog 23 #[.pointer (some ⟨r, 0, none⟩)] W fun e w' => e = .returned (.tuple #[.int .u64 (u : Int), .int .i64 0]) ∧ RefR w' r g N c (inR P) k' ∧ Fr [r] W w') := Lib.hid (by
      intro W k u k' rest h1 h2 h3 h4 h5
      refine (Var.refTake_any W r k c (some ⟨g, 0, none⟩) (inR P) h1.rrd (by omega) (by omega) (u, (Var.putV u).length, 0) (by rw [h4]; exact Var.takeV_put u rest h3)).mono ?_
      rintro e w' ⟨rfl, h6, h7⟩
      refine ⟨rfl, ?_, h7⟩
      rw [← h5]
      exact RefR.of h6 Hil.out (by omega))
    have hPi := hP.i
    have hPo := hP.o
    have hPm := hP.mt
    obtain ⟨vi, hvi⟩ : ∃ vi, P.i = vi := ⟨_, rfl⟩
    obtain ⟨vo, hvo⟩ : ∃ vo, P.o = vo := ⟨_, rfl⟩
    obtain ⟨vm, hvm⟩ : ∃ vm, P.mt.length = vm := ⟨_, rfl⟩
    rw [hvi] at hPi
    rw [hvo] at hPo
    rw [hvm] at hPm
    obtain ⟨k1, hk1⟩ : ∃ k1, 4 + (Var.putV vi).length = k1 := ⟨_, rfl⟩
    obtain ⟨k2, hk2⟩ : ∃ k2, k1 + (Var.putV vo).length = k2 := ⟨_, rfl⟩
    obtain ⟨k3, hk3⟩ : ∃ k3, k2 + (Var.putV vm).length = k3 := ⟨_, rfl⟩
    obtain ⟨k4, hk4⟩ : ∃ k4, k3 + vm = k4 := ⟨_, rfl⟩
    have hall : inR P = [66, 80, 83, 49] ++ (Var.putV vi ++ (Var.putV vo ++ (Var.putV vm ++ (P.mt ++ P.L.flatMap actB)))) := by unfold inR Bps.inner; rw [hvi, hvo, hvm]
    have d0 : (inR P).drop 4 = Var.putV vi ++ (Var.putV vo ++ (Var.putV vm ++ (P.mt ++ P.L.flatMap actB))) := by rw [hall]; rfl
    have d1 : (inR P).drop k1 = Var.putV vo ++ (Var.putV vm ++ (P.mt ++ P.L.flatMap actB)) := by rw [← hk1, ← List.drop_drop, d0, List.drop_left]
    have d2 : (inR P).drop k2 = Var.putV vm ++ (P.mt ++ P.L.flatMap actB) := by rw [← hk2, ← List.drop_drop, d1, List.drop_left]
    have d3 : (inR P).drop k3 = P.mt ++ P.L.flatMap actB := by rw [← hk3, ← List.drop_drop, d2, List.drop_left]
    have d4 : (inR P).drop k4 = P.L.flatMap actB := by rw [← hk4, ← hvm, ← List.drop_drop, d3, List.drop_left]
    have hN4 : N = 4 + ((Var.putV vi).length + ((Var.putV vo).length + ((Var.putV vm).length + (vm + (P.L.flatMap actB).length)))) := by
      rw [← hil, hall]
      simp only [List.length_append, hvm]
      rfl
    have b1 : k1 ≤ N := by omega
    have b2 : k2 ≤ N := by omega
    have b3 : k3 + vm ≤ N := by omega
    have HT1 := Lib.hid (HTk.out w3 4 vi k1 _ HR3.out (by omega) (by unfold Var.most; omega) d0 hk1)
    have HT2 := Lib.hid (fun W h => HTk.out W k1 vo k2 _ h b1 (by unfold Var.most; omega) d1 hk2)
    have HT3 := Lib.hid (fun W h => HTk.out W k2 vm k3 _ h b2 (by unfold Var.most; omega) d2 hk3)
    have HMt : Hid (((inR P).drop k3).take vm = P.mt) := Lib.hid (by rw [d3, ← hvm, List.take_left])
    have HT4 : Hid (∀ W, RefR W r g N c (inR P) k3 → Calls Try.prog 24 #[.pointer (some ⟨r, 0, none⟩), .int .i64 (vm : Int)] W fun e w' => ∃ A' c', e = .returned (.tuple #[.slice A' vm c', .int .i64 0]) ∧ Own w' W.heap.size (.slice A' vm c') P.mt ∧ RefR w' r g N c (inR P) k4 ∧ Fr [r] W w') := Lib.hid fun W h => by
      have := ref_ok W r g N c k3 vm (inR P) h (by omega) b3
      rw [HMt.out, hk4] at this
      exact this
    have Hd4 := Lib.hid d4
    have Hv := Lib.hid (And.intro hvi (And.intro hvo hvm))
    have i1 : ¬ (16777216 : Int) < vi := by omega
    have i2 : ¬ (16777216 : Int) < vo := by omega
    have i3 : IntKind.i64.wrap (vm : Int) = (vm : Int) := by rw [IntKind.wrap_i64]; omega
    have i4 : IntKind.i64.wrap (vi : Int) = (vi : Int) := by rw [IntKind.wrap_i64]; omega
    have i5 : IntKind.i64.wrap (vo : Int) = (vo : Int) := by rw [IntKind.wrap_i64]; omega
    clear d0 d1 d2 d3 d4 hall hil hvi hvo hvm hk1 hk2 hk3 hN4 b1 b2 HTk
    go_wp2_with fail
    refine HT1.out.mono ?_
    rintro e w4 ⟨rfl, hr4, hf4⟩
    have HR4 := Lib.hid hr4
    have HF4 : Hid (Fr [] w w4) := Lib.hid (HF3.out.trans hf4 (by simp; omega))
    have HBz4 := Lib.hid (HBz3.out.fr hf4 (by simp; omega))
    clear hr4 hf4 HT1 HR3 HF3 HBz3
    go_wp2_with fail
    refine (HT2.out w4 HR4.out).mono ?_
    rintro e w5 ⟨rfl, hr5, hf5⟩
    have HR5 := Lib.hid hr5
    have HF5 : Hid (Fr [] w w5) := Lib.hid (HF4.out.trans hf5 (by simp; omega))
    have HBz5 := Lib.hid (HBz4.out.fr hf5 (by simp; omega))
    clear hr5 hf5 HT2 HR4 HF4 HBz4
    go_wp2_with fail
    refine (HT3.out w5 HR5.out).mono ?_
    rintro e w6 ⟨rfl, hr6, hf6⟩
    have HR6 := Lib.hid hr6
    have HF6 : Hid (Fr [] w w6) := Lib.hid (HF5.out.trans hf6 (by simp; omega))
    have HBz6 := Lib.hid (HBz5.out.fr hf6 (by simp; omega))
    clear hr6 hf6 HT3 HR5 HF5 HBz5
    go_wp2_with fail
    refine (HT4.out w6 HR6.out).mono ?_
    rintro e w7 ⟨MA, mc, rfl, ho7, hr7, hf7⟩
    have HO7 := Lib.hid ho7
    have HR7 := Lib.hid hr7
    have HF7 : Hid (Fr [] w w7) := Lib.hid (HF6.out.trans hf7 (by simp; omega))
    have HBz7 := Lib.hid (HBz6.out.fr hf7 (by simp; omega))
    clear ho7 hr7 hf7 HT4 HR6 HF6 HBz6
    obtain ⟨N8, hN8⟩ : ∃ N8, N + 4 = N8 := ⟨_, rfl⟩
    have e14 : (n : Int) - 8 = (N8 : Int) := by omega
    have e15 : IntKind.i64.wrap (N8 : Int) = (N8 : Int) := by rw [IntKind.wrap_i64]; omega
    have hinn : (Bps.inner P.i P.o P.mt P.L).length + 4 = N := by
      have := Hil.out
      unfold inR at this
      rw [List.length_append] at this
      simp at this
      omega
    have HW1 := Lib.hid (HW12.out w7 N P.s1 (by omega) (Bps.whole_sum1 P.i P.o P.s1 P.s2 P.mt P.L N hinn).symm HF7.out)
    have HW2 := Lib.hid (fun W hW => HW12.out W N8 P.s2 (by omega) (by rw [← hN8]; exact (Bps.whole_sum2 P.i P.o P.s1 P.s2 P.mt P.L N hinn).symm) hW)
    obtain ⟨Z1, hZ1⟩ : ∃ Z1, P.s1 = Z1 := ⟨_, rfl⟩
    obtain ⟨Z2, hZ2⟩ : ∃ Z2, P.s2 = Z2 := ⟨_, rfl⟩
    rw [hZ1] at HW1
    rw [hZ2] at HW2
    have HZ := Lib.hid (And.intro hZ1 hZ2)
    clear hZ1 hZ2 hinn HW12 hN8
    go_wp2_with fail
    refine HW1.out.mono ?_
    rintro e w8 ⟨rfl, hf8⟩
    have HF8 := Lib.hid (HF7.out.tr hf8)
    have HO8 := Lib.hid (HO7.out.fr hf8 (by simp))
    have HR8 := Lib.hid (HR7.out.fr hf8 (by simp) (by simp))
    have HBz8 := Lib.hid (HBz7.out.fr hf8 (by simp))
    clear hf8 HW1
    go_wp2_with fail
    refine (HW2.out w8 HF8.out).mono ?_
    rintro e w9 ⟨rfl, hf9⟩
    have HF9 := Lib.hid (HF8.out.tr hf9)
    have HO9 := Lib.hid (HO8.out.fr hf9 (by simp))
    have HR9 := Lib.hid (HR8.out.fr hf9 (by simp) (by simp))
    have HBz9 := Lib.hid (HBz8.out.fr hf9 (by simp))
    clear hf9 HW2 HF7 HO7 HR7 HBz7 HF8 HO8 HR8 HBz8
    obtain ⟨pb, hpb⟩ : ∃ pb, w9.heap.size = pb := ⟨_, rfl⟩
    go_upto_region 24 with fail
    have hal : Fr [] w9 (w9.alloc (.cells #[.int .i64 (vi : Int), .int .i64 (vo : Int), .int .u32 (Crc.u Z1), .int .u32 (Crc.u Z2), .slice MA vm mc, .slice none 0 0] 30)) := (Fr.refl [] w9).alloc _
    have HP10 : Hid (Blk (w9.alloc (.cells #[.int .i64 (vi : Int), .int .i64 (vo : Int), .int .u32 (Crc.u Z1), .int .u32 (Crc.u Z2), .slice MA vm mc, .slice none 0 0] 30)) pb 30 #[.int .i64 (vi : Int), .int .i64 (vo : Int), .int .u32 (Crc.u Z1), .int .u32 (Crc.u Z2), .slice MA vm mc, .slice none 0 0]) := Lib.hid (by
      have h1 := Blk.fresh w9 30 #[.int .i64 (vi : Int), .int .i64 (vo : Int), .int .u32 (Crc.u Z1), .int .u32 (Crc.u Z2), .slice MA vm mc, .slice none 0 0]
      rw [hpb] at h1
      exact h1)
    have HF10 := Lib.hid (HF9.out.tr hal)
    have HO10 := Lib.hid (HO9.out.fr hal (by simp))
    have HR10 := Lib.hid (HR9.out.fr hal (by simp) (by simp))
    have HBz10 := Lib.hid (HBz9.out.fr hal (by simp))
    have hzp : pb < (w9.alloc (.cells #[.int .i64 (vi : Int), .int .i64 (vo : Int), .int .u32 (Crc.u Z1), .int .u32 (Crc.u Z2), .slice MA vm mc, .slice none 0 0] 30)).heap.size := HP10.out.lt
    have hrp : r < pb := by have := HR9.out.1.lt; omega
    clear hal HF9 HO9 HR9 HBz9
    generalize w9.alloc (.cells #[.int .i64 (vi : Int), .int .i64 (vo : Int), .int .u32 (Crc.u Z1), .int .u32 (Crc.u Z2), .slice MA vm mc, .slice none 0 0] 30) = wL at *
    obtain ⟨pv, hpv⟩ : ∃ pv : Array Value, pv = #[.int .i64 (vi : Int), .int .i64 (vo : Int), .int .u32 (Crc.u Z1), .int .u32 (Crc.u Z2), .slice MA vm mc] := ⟨_, rfl⟩
    have Hpv := Lib.hid hpv
    have HI0 : Hid (RpI wL P r g N c pb s0 pv [] P.L k4 (.slice none 0 0) wL) := Lib.hid ⟨rfl, Hd4.out, by omega, HR10.out, by rw [hpv]; exact HP10.out, HBz10.out, ActOwn.none_ _ _ _, Fr.refl _ _⟩
    have HR0 := Lib.hid HR10.out.1
    have HP0 := Lib.hid HP10.out
    have HOk := Lib.hid hP.ok
    have HTot : Hid (total P.L = vo) := Lib.hid (by rw [hP.tot]; exact Hv.out.2.1)
    clear hpv HP10 HR10 HBz10
    go_wp2_with fail
    go_loopw [15] (fun s wr => ∃ (done rest : List Bps.Act) (k : Nat) (vL : Value), s = .int .u64 (total done : Int) ∧ RpI wL P r g N c pb s0 pv done rest k vL wr) (fun s _ => vo - (intOf s).toNat)
    case atStart => exact ⟨[], P.L, k4, _, rfl, HI0.out⟩
    case round =>
      obtain ⟨done, rest, k, vL, rfl, hI⟩ := hrel
      have HI := Lib.hid hI
      have hq := hI.rdr.1
      have q0 := hq.cell 0
      have q1 := hq.cell 1
      simp at q0 q1
      have htd : total done + total rest = vo := by rw [← HTot.out, hI.split, Bps.total_append]
      have hkN := hI.kN
      clear hI hq HI0
      cases rest with
      | nil =>
        have hkk : k = N := by
          have h1 := congrArg List.length HI.out.drop
          rw [List.length_drop, Hil.out] at h1
          simp at h1
          omega
        subst hkk
        simp only [total, Nat.add_zero] at htd
        rw [htd]
        go_wp2_with fail
        go_quiet (fail)
        have hdr : Fr [] wr (wr.drewN nq) := (Fr.refl [] wr).drewN nq
        have HZz := Lib.hid (HI.out.zero.fr hdr (by simp))
        have hpt := HI.out.pat.fr hdr (by simp)
        have hown := HI.out.own.fr hdr (by simp)
        obtain ⟨AL, cL, rfl, hrd, hlc, -, -⟩ := hown.slice
        have hdone : done = P.L := by have := HI.out.split; rw [List.append_nil] at this; exact this.symm
        rw [hdone] at hrd hlc
        have hpt2 : Blk (wr.drewN nq) pb 30 #[.int .i64 (vi : Int), .int .i64 (vo : Int), .int .u32 (Crc.u Z1), .int .u32 (Crc.u Z2), .slice MA vm mc, .slice AL P.L.length cL] := by
          have := hpt
          rw [Hpv.out, hdone] at this
          simpa using this
        have hAF : ∀ W', Fr [s0] (wr.drewN nq) W' → ActRd W' AL P.L := by
          intro W' hW'
          have h1 := hown.fr hW' (by simp; omega)
          obtain ⟨AL', cL', e1, h2, -⟩ := h1.slice
          injection e1 with e1 _ _
          rw [e1]
          rw [hdone] at h2
          exact h2
        have HOm : Hid (Own (wr.drewN nq) w6.heap.size (.slice MA vm mc) P.mt) := Lib.hid ((HO10.out.fr HI.out.fr (by
          intro k2 hk2
          simp
          refine ⟨?_, ?_⟩
          · rintro rfl
            exact HO10.out.other HR0.out (by decide) hk2
          · rintro rfl
            exact HO10.out.other HP0.out (by decide) hk2)).fr hdr (by simp))
        have HF11 : Hid (Fr [] w (wr.drewN nq)) := Lib.hid ((HF10.out.trans HI.out.fr (by simp; omega)).tr hdr)
        clear hpt hown hrd q0 q1 hdr HI
        generalize wr.drewN nq = w2 at *
        obtain ⟨y0, y1, y2, y3, y4, y5⟩ := Bps.blk6 hpt2
        obtain ⟨z0, z1, z2, z3, z4, z5⟩ := Bps.blk6 HZz.out
        have f0 := HZz.out.frozen 0
        have f1 := HZz.out.frozen 1
        have f2 := HZz.out.frozen 2
        have f3 := HZz.out.frozen 3
        have f4 := HZz.out.frozen 4
        have f5 := HZz.out.frozen 5
        have e16 : ¬ (vo : Int) < vo := by omega
        clear hpt2
        go_wp2
        have hst := Bps.put6_fr w2 s0 (.int .i64 (vi : Int)) (.int .i64 (vo : Int)) (.int .u32 (Crc.u Z1)) (.int .u32 (Crc.u Z2)) (.slice MA vm mc) (.slice AL P.L.length cL)
        have hbl := Bps.put6 HZz.out (.int .i64 (vi : Int)) (.int .i64 (vo : Int)) (.int .u32 (Crc.u Z1)) (.int .u32 (Crc.u Z2)) (.slice MA vm mc) (.slice AL P.L.length cL)
        have hfin : Fr [] w _ := HF11.out.trans hst (by simp; omega)
        have hrm : Rd _ MA P.mt := (HOm.out.fr hst (by intro k2 hk2; simp; rintro rfl; exact HOm.out.other HZz.out (by decide) hk2)).rd
        have hra : ActRd _ AL P.L := hAF _ hst
        obtain ⟨v0, v1, v2, v3, v4, v5⟩ := Bps.blk6 hbl
        generalize (((((w2.setCell ⟨s0, 0, none⟩ (.int .i64 (vi : Int))).setCell ⟨s0, 1, none⟩ (.int .i64 (vo : Int))).setCell ⟨s0, 2, none⟩ (.int .u32 (Crc.u Z1))).setCell ⟨s0, 3, none⟩ (.int .u32 (Crc.u Z2))).setCell ⟨s0, 4, none⟩ (.slice MA vm mc)).setCell ⟨s0, 5, none⟩ (.slice AL P.L.length cL) = w3 at *
        refine bodyPost_ret (v := .tuple #[.agg #[.int .i64 (vi : Int), .int .i64 (vo : Int), .int .u32 (Crc.u Z1), .int .u32 (Crc.u Z2), .slice MA vm mc, .slice AL P.L.length cL], .int .i64 0]) (by simp [results, Try.results9, go_sem, v0, v1, v2, v3, v4, v5]) rfl ⟨MA, mc, AL, cL, ?_, hrm, hra, hlc, hfin⟩
        rw [HZ.out.1, HZ.out.2, Hv.out.1, Hv.out.2.1, Hv.out.2.2]
      | cons a rest =>
        have hoka := HOk.out a (by rw [HI.out.split]; simp)
        have hapos := hoka.pos
        have halen := hoka.len
        simp only [total] at htd
        obtain ⟨U, hU⟩ : ∃ U, headN a = U := ⟨_, rfl⟩
        have hUk := Bps.headN_kind a hoka
        have hUl := Bps.headN_len a hoka
        have hUm := Bps.headN_le a hoka
        rw [hU] at hUk hUl hUm
        obtain ⟨td, htdd⟩ : ∃ td, total done = td := ⟨_, rfl⟩
        rw [htdd] at htd
        have Htd := Lib.hid htdd
        obtain ⟨k', hk'⟩ : ∃ k', k + (Var.putV U).length = k' := ⟨_, rfl⟩
        have hdk : (inR P).drop k = Var.putV U ++ (tailB a ++ rest.flatMap actB) := by
          rw [HI.out.drop, List.flatMap_cons]
          unfold actB
          rw [hU, List.append_assoc]
        have hdk' : (inR P).drop k' = tailB a ++ rest.flatMap actB := by rw [← hk', ← List.drop_drop, hdk, List.drop_left]
        have hkN1 : k < N := by
          have h1 := congrArg List.length hdk
          rw [List.length_drop, Hil.out, List.length_append] at h1
          have := Var.putV_pos U
          omega
        have hk'N : k' + (tailB a ++ rest.flatMap actB).length = N := by
          have h1 := congrArg List.length hdk
          have h2 := congrArg List.length hdk'
          rw [List.length_drop, Hil.out] at h1 h2
          rw [List.length_append] at h1
          omega
        have hkNi : (k : Int) < N := by omega
        have HTk : Hid (∀ W, RefR W r g N c (inR P) k → Calls Try.prog 23 #[.pointer (some ⟨r, 0, none⟩)] W fun e w' => e = .returned (.tuple #[.int .u64 (U : Int), .int .i64 0]) ∧ RefR w' r g N c (inR P) k' ∧ Fr [r] W w') := Lib.hid fun W h1 => by
          refine (Var.refTake_any W r k c (some ⟨g, 0, none⟩) (inR P) h1.rrd (by rw [Hil.out]; omega) (by rw [Hil.out]; omega) (U, (Var.putV U).length, 0) (by rw [hdk]; exact Var.takeV_put U _ hUm)).mono ?_
          rintro e w' ⟨rfl, h6, h7⟩
          refine ⟨rfl, ?_, h7⟩
          rw [← hk']
          exact RefR.of h6 Hil.out (by omega)
        have Hdk' := Lib.hid hdk'
        have Hok := Lib.hid hoka
        have HB := Lib.hid HI.out.fr.size
        clear hoka hdk hdk' hU hk' htdd
        obtain ⟨kd, hkd⟩ : ∃ kd, a.kind = kd := ⟨_, rfl⟩
        obtain ⟨ln, hln⟩ : ∃ ln, a.len = ln := ⟨_, rfl⟩
        rw [hkd] at hUk
        rw [hln] at hUl hapos halen htd
        have Hkl := Lib.hid (And.intro hkd hln)
        obtain ⟨q4, hq4⟩ : ∃ q4, U / 4 = q4 := ⟨_, rfl⟩
        have g1 : Int.tdiv (U : Int) 4 = (q4 : Int) := by rw [Int.tdiv_eq_ediv_of_nonneg (by omega)]; omega
        have g2 : Int.tmod (U : Int) 4 = (kd : Int) := by rw [Int.tmod_eq_emod_of_nonneg (by omega)]; omega
        obtain ⟨t1, ht1⟩ : ∃ t1, td + q4 = t1 := ⟨_, rfl⟩
        obtain ⟨t2, ht2⟩ : ∃ t2, t1 + 1 = t2 := ⟨_, rfl⟩
        unfold Var.most at hUm
        have g3 : (td : Int) + (q4 : Int) = (t1 : Int) := by omega
        have g4 : (t1 : Int) + 1 = (t2 : Int) := by omega
        have g5 : IntKind.u64.wrap (q4 : Int) = (q4 : Int) := by rw [IntKind.wrap_u64]; omega
        have g6 : IntKind.u64.wrap (t1 : Int) = (t1 : Int) := by rw [IntKind.wrap_u64]; omega
        have g7 : IntKind.u64.wrap (t2 : Int) = (t2 : Int) := by rw [IntKind.wrap_u64]; omega
        have g8 : ¬ (vo : Int) < t2 := by omega
        have g9 : IntKind.i64.wrap (kd : Int) = (kd : Int) := by rw [IntKind.wrap_i64]; omega
        have g10 : (q4 : Int) + 1 = (ln : Int) := by omega
        have g11 : IntKind.u64.wrap (ln : Int) = (ln : Int) := by rw [IntKind.wrap_u64]; omega
        have g12 : IntKind.i64.wrap (ln : Int) = (ln : Int) := by rw [IntKind.wrap_i64]; omega
        have g13 : IntKind.u64.wrap (kd : Int) = (kd : Int) := by rw [IntKind.wrap_u64]; omega
        have hkd4 : kd < 4 := by omega
        have ht2d : td + ln = t2 := by omega
        clear hkd hln hUk hUl hq4 ht1 ht2 hUm
        rw [Htd.out]
        go_wp2_with fail
        go_quiet (fail)
        have hdr : Fr [] wr (wr.drewN nq) := (Fr.refl [] wr).drewN nq
        have HR2 := Lib.hid (HI.out.rdr.fr hdr (by simp) (by simp))
        have HP2 := Lib.hid (HI.out.pat.fr hdr (by simp))
        have HZ2 := Lib.hid (HI.out.zero.fr hdr (by simp))
        have HO2 := Lib.hid (HI.out.own.fr hdr (by simp))
        have HF2 := Lib.hid (HI.out.fr.tr hdr.nil)
        clear q0 q1 hdr
        generalize wr.drewN nq = w2 at *
        go_wp2_with fail
        refine (HTk.out w2 HR2.out).mono ?_
        rintro e w3 ⟨rfl, hr3, hf3⟩
        have hpr : ¬ pb = r := by omega
        have hsr' : ¬ s0 = r := by omega
        have hwL : r < wL.heap.size := by omega
        have HR3 := Lib.hid hr3
        have HP3 := Lib.hid (HP2.out.fr hf3 (by simp; exact hpr))
        have HZ3 := Lib.hid (HZ2.out.fr hf3 (by simp; exact hsr'))
        have HO3 := Lib.hid (HO2.out.fr hf3 (by simp; omega))
        have HF3 := Lib.hid (HF2.out.trans hf3 (by simp))
        clear hr3 hf3 HR2 HP2 HZ2 HF2 HTk
        obtain ⟨ab, hab⟩ : ∃ ab, w3.heap.size = ab := ⟨_, rfl⟩
        go_upto_region 33 with fail
        have hal : Fr [] w3 (w3.alloc (.cells #[.int .i64 (kd : Int), .int .i64 (ln : Int), .int .i64 0, .slice none 0 0] 40)) := (Fr.refl [] w3).alloc _
        have HA4 : Hid (Blk (w3.alloc (.cells #[.int .i64 (kd : Int), .int .i64 (ln : Int), .int .i64 0, .slice none 0 0] 40)) ab 40 #[.int .i64 (kd : Int), .int .i64 (ln : Int), .int .i64 0, .slice none 0 0]) := Lib.hid (by
          have h1 := Blk.fresh w3 40 #[.int .i64 (kd : Int), .int .i64 (ln : Int), .int .i64 0, .slice none 0 0]
          rw [hab] at h1
          exact h1)
        have hLa : wL.heap.size ≤ ab := by have := HF3.out.size; omega
        have HR4 := Lib.hid (HR3.out.fr hal (by simp) (by simp))
        have HP4 := Lib.hid (HP3.out.fr hal (by simp))
        have HZ4 := Lib.hid (HZ3.out.fr hal (by simp))
        have HO4 := Lib.hid (HO3.out.fr hal (by simp))
        have HF4 := Lib.hid (HF3.out.tr hal.nil)
        have HA43 := Lib.hid hal
        clear hal HR3 HP3 HZ3
        generalize w3.alloc (.cells #[.int .i64 (kd : Int), .int .i64 (ln : Int), .int .i64 0, .slice none 0 0] 40) = w4 at *
        obtain ⟨a0, a1, a2, a3⟩ := Bps.blk4 HA4.out
        obtain ⟨dl, hdl⟩ : ∃ dl, a.data.length = dl := ⟨_, rfl⟩
        have Hdl := Lib.hid hdl
        go_upto_if 153 with fail
        go_cut [153] (fun _ wx => ∃ (D : Option Addr) (dc k2 : Nat), Blk wx ab 40 #[.int .i64 (kd : Int), .int .i64 (ln : Int), .int .i64 0, .slice D dl dc] ∧ (Rd wx D a.data ∧ ((D = none → dc = 0) ∧ dl ≤ dc ∧ dc ≤ maxLen) ∧ (∀ ad, D = some ad → w3.heap.size ≤ ad.block ∧ ad.block < wx.heap.size ∧ ad.block ≠ r ∧ ad.block ≠ ab)) ∧ RefR wx r g N c (inR P) k2 ∧ k2 ≤ N ∧ (inR P).drop k2 = (if kd = 1 then [] else tailB a) ++ rest.flatMap actB ∧ Fr [r, ab] w4 wx)
        case first =>
          by_cases hk1 : kd = 1
          · subst hk1
            have hd1 : dl = ln := by rw [← hdl, Hok.out.data Hkl.out.1, Hkl.out.2]
            have hT1 : tailB a = a.data := Bps.tail1 a Hkl.out.1
            have hk2N : k' + ln ≤ N := by
              rw [hT1, List.length_append, hdl] at hk'N
              omega
            obtain ⟨k2, hk2⟩ : ∃ k2, k' + ln = k2 := ⟨_, rfl⟩
            have HBy : Hid (Calls Try.prog 24 #[.pointer (some ⟨r, 0, none⟩), .int .i64 (ln : Int)] w4 fun e w' => ∃ A' c', e = .returned (.tuple #[.slice A' ln c', .int .i64 0]) ∧ Own w' w4.heap.size (.slice A' ln c') a.data ∧ RefR w' r g N c (inR P) k2 ∧ Fr [r] w4 w') := Lib.hid (by
              have := ref_ok w4 r g N c k' ln (inR P) HR4.out (by omega) hk2N
              rw [Hdk'.out, hT1, hk2, ← hd1, ← hdl, List.take_left] at this
              rw [← hd1, ← hdl]
              exact this)
            have Hd2 : Hid ((inR P).drop k2 = rest.flatMap actB) := Lib.hid (by rw [← hk2, ← List.drop_drop, Hdk'.out, hT1, ← hd1, ← hdl, List.drop_left])
            go_wp2_with fail
            refine HBy.out.mono ?_
            rintro e w5 ⟨DA, dc, rfl, ho5, hr5, hf5⟩
            have har : ¬ ab = r := by omega
            have hb5 := HA4.out.fr hf5 (by simp; exact har)
            have HO5 := Lib.hid ho5
            have HR5 := Lib.hid hr5
            have HA5 := Lib.hid hb5
            have HF5 := Lib.hid hf5
            obtain ⟨b0, b1, b2, b3⟩ := Bps.blk4 hb5
            have f3 := hb5.frozen 3
            clear ho5 hr5 hb5 hf5 a0 a1 a2 a3
            go_wp2_with fail
            go_meet
            have hst : Fr [ab] w5 (w5.setCell ⟨ab, 3, none⟩ (.slice DA ln dc)) := (Fr.refl _ _).setCell (by simp) _
            have hb6 := HA5.out.put 3 (.slice DA ln dc)
            simp at hb6
            have ho6 := HO5.out.fr hst (by intro k5 hk5; simp; rintro rfl; exact HO5.out.other HA5.out (by decide) hk5)
            obtain ⟨_, _, ev, hrd6, hown6, hcp1, hcp2, hcp3⟩ := ho6.slice
            injection ev with ev1 _ ev3
            subst ev1 ev3
            rw [hdl] at hcp1
            refine ⟨DA, dc, k2, by rw [hd1]; exact hb6, ⟨hrd6, ⟨hcp3, hcp1, hcp2⟩, ?_⟩, HR5.out.fr hst (by simp; omega) (by simp; have := HA4.out.lt; omega), by omega, by simp only [if_true, List.nil_append]; exact Hd2.out, (HF5.out.sub (by simp)).trans hst (by simp)⟩
            intro ad had
            have h1 := hown6 ad had
            have h2 := ho6.lt _ h1
            have h3 := HA43.out.size
            have h4 := HA4.out.lt
            have h5 := HR4.out.1.lt
            refine ⟨by omega, h2.2, by omega, by omega⟩
          · have i1 : ((kd : Int) == 1) = false := by simp; omega
            have hdz : a.data = [] := Hok.out.none_ (by rw [Hkl.out.1]; exact hk1)
            have hdz2 : dl = 0 := by rw [← hdl, hdz]; rfl
            go_wp2_with fail
            go_meet
            refine ⟨none, 0, k', by rw [hdz2]; exact HA4.out, ⟨by rw [hdz]; exact rd_nil _, ⟨fun _ => rfl, by omega, by simp [maxLen]⟩, by simp⟩, HR4.out, by omega, by rw [if_neg hk1]; exact Hdk'.out, Fr.refl _ _⟩
        case rest =>
          obtain ⟨D, dc, k2, hA5, ⟨hd5, hd6, hd7⟩, hr5, hk2N, hd5', hf5⟩ := hcut
          have har : ¬ ab = r := by omega
          have hrl := HR4.out.1.lt
          have HA5 := Lib.hid hA5
          have HD5 := Lib.hid hd5
          have HD6 := Lib.hid hd6
          have HD7 := Lib.hid hd7
          have HR5 := Lib.hid hr5
          have Hdr5 := Lib.hid hd5'
          have hf5' : Fr [r, ab] w4 wc := hf5
          have HP5 := Lib.hid (HP4.out.fr hf5 (by simp; omega))
          have HZ5 := Lib.hid (HZ4.out.fr hf5 (by simp; omega))
          have HFa5 : Hid (Fr [r, ab] w3 wc) := Lib.hid (HA43.out.nil.tr hf5)
          have HF5 : Hid (Fr [r, pb] wL wc) := Lib.hid (HF4.out.trans hf5 (by simp; omega))
          have hsz5 : w4.heap.size ≤ wc.heap.size := hf5.size
          have hab5 : ab < wc.heap.size := hA5.lt
          clear hd5 hd6 hd7 hr5 hd5' hf5 a0 a1 a2 a3 HR4 HP4 HZ4 hf5'
          obtain ⟨a0, a1, a2, a3⟩ := Bps.blk4 hA5
          clear hA5
          obtain ⟨mv, hmv⟩ : ∃ mv, a.move = mv := ⟨_, rfl⟩
          have Hmv := Lib.hid hmv
          have hmlow := Hok.out.low
          have hmhigh := Hok.out.high
          rw [hmv] at hmlow hmhigh
          go_upto_if 169 with fail
          go_cut [169] (fun _ wx => ∃ k3 : Nat, Blk wx ab 40 #[.int .i64 (kd : Int), .int .i64 (ln : Int), .int .i64 mv, .slice D dl dc] ∧ RefR wx r g N c (inR P) k3 ∧ k3 ≤ N ∧ (inR P).drop k3 = rest.flatMap actB ∧ Fr [r, ab] wc wx)
          case first =>
            by_cases hk2 : 2 ≤ kd
            · have i1 : (2 : Int) ≤ kd := by omega
              have hk1 : ¬ kd = 1 := by omega
              obtain ⟨T, hT⟩ : ∃ T, Bps.turnN mv = T := ⟨_, rfl⟩
              have hTm : T ≤ Var.most := by rw [← hT]; exact Bps.turnN_le mv hmlow hmhigh
              have hdr2 : (inR P).drop k2 = Var.putV T ++ rest.flatMap actB := by
                rw [Hdr5.out, if_neg hk1, Bps.tail2 a (by rw [Hkl.out.1]; exact hk2), hmv, hT]
              obtain ⟨k3, hk3⟩ : ∃ k3, k2 + (Var.putV T).length = k3 := ⟨_, rfl⟩
              have HTk : Hid (Calls Try.prog 23 #[.pointer (some ⟨r, 0, none⟩)] wc fun e w' => e = .returned (.tuple #[.int .u64 (T : Int), .int .i64 0]) ∧ RefR w' r g N c (inR P) k3 ∧ Fr [r] wc w') := Lib.hid (by
                refine (Var.refTake_any wc r k2 c (some ⟨g, 0, none⟩) (inR P) HR5.out.rrd (by rw [Hil.out]; omega) (by rw [Hil.out]; omega) (T, (Var.putV T).length, 0) (by rw [hdr2]; exact Var.takeV_put T _ hTm)).mono ?_
                rintro e w' ⟨rfl, h6, h7⟩
                refine ⟨rfl, ?_, h7⟩
                rw [← hk3]
                exact RefR.of h6 Hil.out (by omega))
              have hdr3 : (inR P).drop k3 = rest.flatMap actB := by rw [← hk3, ← List.drop_drop, hdr2, List.drop_left]
              have hk3N : k3 ≤ N := by
                have h1 := congrArg List.length hdr2
                rw [List.length_drop, Hil.out, List.length_append] at h1
                omega
              have HBk : Hid (∀ W, Calls Try.prog 25 #[.int .u64 (T : Int)] W fun e w' => e = .returned (.int .i64 mv) ∧ W = w') := Lib.hid fun W => by
                have h1 := Bps.back_turn mv hmlow hmhigh
                rw [hT] at h1
                have := Var.refBack_any W (T : Int) (by omega) (by unfold Var.most at hTm; omega)
                rw [h1] at this
                exact this
              have Hdr3 := Lib.hid hdr3
              clear hdr2 hdr3 hT hTm
              go_wp2_with fail
              refine HTk.out.mono ?_
              rintro e w5 ⟨rfl, hr5, hf5⟩
              have hb5 := HA5.out.fr hf5 (by simp; exact har)
              have HR6 := Lib.hid hr5
              have HA6 := Lib.hid hb5
              have HF6 := Lib.hid hf5
              obtain ⟨b0, b1, b2, b3⟩ := Bps.blk4 hb5
              have f2 := hb5.frozen 2
              clear hr5 hb5 hf5 a0 a1 a2 a3
              go_wp2_with fail
              refine (HBk.out w5).mono ?_
              rintro e w6 ⟨rfl, rfl⟩
              go_wp2_with fail
              go_meet
              have hst : Fr [ab] w5 (w5.setCell ⟨ab, 2, none⟩ (.int .i64 mv)) := (Fr.refl _ _).setCell (by simp) _
              have hb6 := HA6.out.put 2 (.int .i64 mv)
              simp at hb6
              exact ⟨k3, hb6, HR6.out.fr hst (by simp; omega) (by simp; omega), hk3N, Hdr3.out, (HF6.out.sub (by simp)).trans hst (by simp)⟩
            · have i1 : ¬ (2 : Int) ≤ kd := by omega
              have hm0 : mv = 0 := by rw [← hmv]; exact Hok.out.still (by rw [Hkl.out.1]; omega)
              have hdr2 : (inR P).drop k2 = rest.flatMap actB := by
                rw [Hdr5.out]
                by_cases hk1 : kd = 1
                · rw [if_pos hk1, List.nil_append]
                · rw [if_neg hk1, Bps.tail0 a (by rw [Hkl.out.1]; omega), List.nil_append]
              have Hdr2 := Lib.hid hdr2
              clear hdr2
              go_wp2_with fail
              go_meet
              exact ⟨k2, by rw [hm0]; exact HA5.out, HR5.out, hk2N, Hdr2.out, Fr.refl _ _⟩
          case rest =>
            obtain ⟨k3, hA7, hr7, hk3N, hd7, hf7⟩ := hcut
            have HA7 := Lib.hid hA7
            have HR7 := Lib.hid hr7
            have Hd7 := Lib.hid hd7
            have HP7 := Lib.hid (HP5.out.fr hf7 (by simp; omega))
            have HZ7 := Lib.hid (HZ5.out.fr hf7 (by simp; omega))
            have HFa7 : Hid (Fr [r, ab] w3 wc) := Lib.hid (HFa5.out.tr hf7)
            have hw3r : w3.heap.size ≤ ab := by omega
            have hown7 := HO3.out.fr HFa7.out (by simp; omega)
            have HF7 : Hid (Fr [r, pb] wL wc) := Lib.hid (HF5.out.trans hf7 (by simp; omega))
            obtain ⟨AL, cL, rfl, -⟩ := HO3.out.slice
            have HO7 := Lib.hid hown7
            obtain ⟨Nd, hNd⟩ : ∃ Nd, done.length = Nd := ⟨_, rfl⟩
            have HNd := Lib.hid hNd
            have hsL : wL.heap.size ≤ w3.heap.size := HF3.out.size
            have hs3 : w3.heap.size ≤ wc.heap.size := HFa7.out.size
            have HG : Hid (∀ W, Fr [] wc W → Acts.Good W wL.heap.size (.slice AL Nd cL) (a, D, dc)) := Lib.hid fun W hW => by
              rw [← hNd]
              exact Acts.good_new HO3.out a hsL HD5.out (by rw [Hdl.out]; exact HD6.out) (fun ad had => ⟨(HD7.out ad had).1, (HD7.out ad had).2.1⟩) (hf7.trans hW (by simp)) (fun ad had => by have := HD7.out ad had; simp; exact ⟨this.2.2.1, this.2.2.2⟩)
            have hpt7 : Blk wc pb 30 #[.int .i64 (vi : Int), .int .i64 (vo : Int), .int .u32 (Crc.u Z1), .int .u32 (Crc.u Z2), .slice MA vm mc, .slice AL Nd cL] := by
              have := HP7.out
              rw [Hpv.out, hNd] at this
              simpa using this
            have HPt7 := Lib.hid hpt7
            obtain ⟨-, -, -, -, -, p5⟩ := Bps.blk6 hpt7
            have fp5 := hpt7.frozen 5
            obtain ⟨c0, c1, c2, c3⟩ := Bps.blk4 hA7
            obtain ⟨G, hG⟩ : ∃ G, wc.heap.size = G := ⟨_, rfl⟩
            have HL : Hid (∀ j u, (Acts.actV (a, D, dc))[j]? = some u → (wc.alloc (.cells #[.int .i64 (kd : Int), .int .i64 (ln : Int), .int .i64 mv, .slice D dl dc] 40)).cell? ((⟨G, 0, none⟩ : Addr).add j) = some u) := Lib.hid (by
              have := Acts.act_laid wc (a, D, dc) 40 dl G Hdl.out hG
              simp only [Hkl.out.1, Hkl.out.2, Hmv.out] at this
              exact this)
            have hdone : Nd ≤ 16777216 := by
              have h1 := Bps.total_ge done (fun x hx => (HOk.out x (by rw [HI.out.split]; simp [hx])).pos)
              rw [Htd.out, hNd] at h1
              omega
            obtain ⟨i0, hi, hz0, hz1, hz2⟩ := info_parts infoAct
            have hpbG : pb < G := by omega
            have hpbG2 : ¬ pb = G := by omega
            have hpbG3 : ¬ G = pb := by omega
            rw [hNd] at HO7
            have HOw : Hid (ActOwn (wc.alloc (.cells #[.int .i64 (kd : Int), .int .i64 (ln : Int), .int .i64 mv, .slice D dl dc] 40)) wL.heap.size 40 (.slice AL Nd cL) done) := Lib.hid (HO7.out.fr ((Fr.refl [] wc).alloc _) (by simp))
            have HGw := Lib.hid (HG.out _ ((Fr.refl [] wc).alloc (.cells #[.int .i64 (kd : Int), .int .i64 (ln : Int), .int .i64 mv, .slice D dl dc] 40)))
            clear hA7 hr7 hd7 hf7 hown7 hNd hpt7 HG
            have HsW : Hid (wL.heap.size ≤ (wc.alloc (.cells #[.int .i64 (kd : Int), .int .i64 (ln : Int), .int .i64 mv, .slice D dl dc] 40)).heap.size) := Lib.hid (by simp; omega)
            have HNd1 : Hid (done.length + 1 = Nd + 1) := Lib.hid (by rw [HNd.out])
            have HNd2 : Hid (done.length ≤ 1000000000) := Lib.hid (by rw [HNd.out]; omega)
            go_wp2_with (at_builtin; refine Acts.wpList_acts _ rfl (.tmp 183) (.tmp 185) 28 rfl wL.heap.size 40 i0 Try.underlying28 hi hz0 hz1 hz2 (.slice AL Nd cL) done (Nd + 1) HNd1.out rfl HOw.out G 1 (a, D, dc) rfl HL.out HGw.out HNd2.out HsW.out ?_)
            intro A' cap' w9 ho9 hf9
            have hal : Fr [] wc (wc.alloc (.cells #[.int .i64 (kd : Int), .int .i64 (ln : Int), .int .i64 mv, .slice D dl dc] 40)) := (Fr.refl [] wc).alloc _
            have hfo : ∀ k9 ∈ (Value.slice AL Nd cL).ownBlock.toList, wL.heap.size ≤ k9 := HO7.out.fresh
            have hft : Fr (Value.slice AL Nd cL).ownBlock.toList wc w9 := hal.nil.tr hf9
            have hnot : ∀ k9, k9 < wL.heap.size → k9 ∉ (Value.slice AL Nd cL).ownBlock.toList := fun k9 h1 h2 => by have := hfo k9 h2; omega
            have hpt9 := HPt7.out.fr hft (hnot pb hzp)
            have HPt9 := Lib.hid hpt9
            have HR9 := Lib.hid (HR7.out.fr hft (hnot r (by omega)) (hnot g (by omega)))
            have HZ9 := Lib.hid (HZ7.out.fr hft (hnot s0 (by omega)))
            have HF9 : Hid (Fr [r, pb] wL w9) := Lib.hid (HF7.out.trans hft (fun k9 hk9 => .inr (hfo k9 hk9)))
            have HO9 := Lib.hid ho9
            obtain ⟨-, -, -, -, -, p9⟩ := Bps.blk6 hpt9
            have fp9 := hpt9.frozen 5
            clear ho9 hf9 hal hft hpt9 hfo hnot p5 fp5 c0 c1 c2 c3
            have HNext : Hid (RpI wL P r g N c pb s0 pv (done ++ [a]) rest k3 (.slice A' (Nd + 1) cap') (w9.setCell ⟨pb, 5, none⟩ (.slice A' (Nd + 1) cap'))) := Lib.hid (by
              have hst : Fr [pb] w9 (w9.setCell ⟨pb, 5, none⟩ (.slice A' (Nd + 1) cap')) := (Fr.refl _ _).setCell (by simp) _
              have hb := HPt9.out.put 5 (.slice A' (Nd + 1) cap')
              refine ⟨by rw [HI.out.split]; simp, Hd7.out, hk3N, HR9.out.fr hst (by simp; omega) (by simp; omega), ?_, HZ9.out.fr hst (by simp; omega), HO9.out.fr hst (by simp; omega), HF9.out.trans hst (by simp)⟩
              rw [Hpv.out]
              simpa using hb)
            go_wp2
            go_roundw
            case rel =>
              refine ⟨done ++ [a], rest, k3, _, ?_, HNext.out⟩
              rw [Bps.total_append, Htd.out]
              simp only [total, Hkl.out.2, Nat.add_zero, ht2d]
            case measure => simp [intOf]; omega

end Bm
end Go.Proofs.Ytokfcknfkhlmfaa
