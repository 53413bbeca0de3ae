/-
  Contract of picklocklaw07.cut: actions as a patch has them, and how many bytes they make.
-/
import Derived.Test.YtkefckoffnlkcaaRawActs
import Derived.Test.YtkefckoffnlkcaaBpsAct
import Derived.Test.YtkefckoffnlkcaaOctRefPut
import Derived.Deep.DeepCutAuto
namespace Go.Proofs.Ytkefckoffnlkcaa
open Go.RowKit
namespace Bps
open Acts (ActOwn zeroV)

theorem infoR : (Try.prog.info? 40).map (fun i => (i.zero, i.size, i.bytes)) = some (some zeroV, 4, 48) := by kernel_rfl

theorem and3 (n : Int) : ∃ k : Nat, bits .and .i64 n 3 = (k : Int) ∧ k < 4 := by
  have h : (BitVec.ofInt 64 3).toNat = 2 ^ 2 - 1 := by decide
  have key : (BitVec.ofInt 64 n &&& BitVec.ofInt 64 3).toNat = (n % ((2 ^ 64 : Nat) : Int)).toNat % 2 ^ 2 := by
    rw [BitVec.toNat_and, BitVec.toNat_ofInt, h, Nat.and_two_pow_sub_one_eq_mod]
  have e : bits .and .i64 n 3 = IntKind.i64.wrap ((BitVec.ofInt 64 n &&& BitVec.ofInt 64 3).toNat : Nat) := rfl
  refine ⟨(n % ((2 ^ 64 : Nat) : Int)).toNat % 2 ^ 2, ?_, Nat.mod_lt _ (by decide)⟩
  rw [e, key, IntKind.wrap_i64]
  omega
theorem tmod200 (n : Int) : -199 ≤ Int.tmod n 200 ∧ Int.tmod n 200 ≤ 199 := by
  rcases Int.le_total 0 n with h | h
  · rw [Int.tmod_eq_emod_of_nonneg h]; omega
  · have : Int.tmod n 200 = -Int.tmod (-n) 200 := by rw [Int.neg_tmod, Int.neg_neg]
    rw [this, Int.tmod_eq_emod_of_nonneg (by omega)]; omega

/-- What cut leaves. -/
def CutD (w : World) (e : Ending) (w' : World) : Prop :=
  ∃ A c L, e = .returned (.tuple #[.slice A L.length c, .int .i64 ((total L : Nat) : Int)]) ∧ ActOwn w' w.heap.size 40 (.slice A L.length c) L ∧ (∀ a ∈ L, Ok a) ∧ total L ≤ 480 ∧ Fr [] w w'

/-- How many bytes an action has in memory. -/
def dataLen (w : World) (b : Nat) : Nat := match w.cell? ⟨b, 3, none⟩ with
  | some (.slice _ n _) => n
  | _ => 0

set_option maxRecDepth 100000 in
set_option maxHeartbeats 4000000 in
theorem cut_any (w : World) (A : Option Addr) (n c : Nat) (zs : List Raw) (hn : zs.length = n) (h : RawIn w A zs) (_hc : n ≤ c) (_hcm : c ≤ maxLen) :
    Calls Try.prog 7 #[.slice A n c] w (CutD w) := by
  obtain ⟨i0, hi0, hz0, hz1, hz2⟩ := info_parts info5
  obtain ⟨iA, hiA, hzA, hzA1, hzA2⟩ := info_parts infoR
  have HIn := Lib.hid h
  have Hn := Lib.hid hn
  have HQ : Hid (∀ W A c L, ActOwn W w.heap.size 40 (.slice A L.length c) L → (∀ a ∈ L, Ok a) → total L ≤ 480 → Fr [] w W → CutD w (.returned (.tuple #[.slice A L.length c, .int .i64 ((total L : Nat) : Int)])) W) := Lib.hid fun W A c L h1 h2 h3 h4 => ⟨A, c, L, rfl, h1, h2, h3, h4⟩
  generalize CutD w = Q at *
  unfold maxLen at _hcm
  obtain ⟨s, hs⟩ : ∃ s, w.heap.size = s := ⟨_, rfl⟩
  have Hs := Lib.hid hs
  rw [hs] at HQ
  clear h hn hs
  go_enter Try.func7, Try.ntmps7
  go_wp2_with fail
  go_loopw [4, 5, 6] (fun s4 s5 s6 wr => ∃ (j cc : Nat) (A' : Option Addr) (L : List Act), s4 = .slice A' j cc ∧ s5 = .int .i64 ((total L : Nat) : Int) ∧ s6 = .int .i64 (j : Int) ∧ j ≤ n ∧ j ≤ 12 ∧ L.length = j ∧ ActOwn wr s 40 (.slice A' j cc) L ∧ (∀ a ∈ L, Ok a) ∧ total L ≤ 40 * j ∧ Fr [] w wr) (fun _ _ s6 _ => 12 - (intOf s6).toNat)
  case atStart => exact ⟨0, 0, none, [], rfl, rfl, rfl, Nat.zero_le _, Nat.zero_le _, rfl, ActOwn.none_ _ _ _, by simp, by simp [total], Fr.refl _ _⟩
  case round =>
    obtain ⟨j, cc, A', L, rfl, rfl, rfl, hjn, hj12, hLl, hown, hok, htot, hfr⟩ := hrel
    have HOw := Lib.hid hown
    have HOk := Lib.hid hok
    have HLl := Lib.hid hLl
    have HF := Lib.hid hfr
    have hsz : s ≤ wr.heap.size := by rw [← Hs.out]; exact hfr.size
    obtain ⟨tt, htt⟩ : ∃ tt, total L = tt := ⟨_, rfl⟩
    have HTt := Lib.hid htt
    rw [htt] at htot ⊢
    clear hown hok hfr htt hLl
    by_cases hlt : j < n ∧ j < 12
    · obtain ⟨hl1, hl2⟩ := hlt
      have e1 : (j : Int) < n := by omega
      have e2 : (j : Int) < 12 := by omega
      obtain ⟨b, o, rfl, hcell⟩ := (HIn.out.later HF.out) (by rw [Hn.out]; omega)
      obtain ⟨D, d, k0, k1, k2, k3, hD, hDn, hDc, hDm⟩ := hcell j (by rw [Hn.out]; exact hl1)
      obtain ⟨r, hrr⟩ : ∃ r, zs[j]'(by rw [Hn.out]; exact hl1) = r := ⟨_, rfl⟩
      rw [hrr] at k0 k1 k2 k3 hD hDc
      obtain ⟨rk, rl, rm, rd⟩ := r
      simp only at k0 k1 k2 k3 hD hDc
      obtain ⟨kd, hkd, hkd4⟩ := and3 rk
      have hl0 := and65535 rl
      obtain ⟨q, hq⟩ : ∃ q : Nat, Int.tmod (bits .and .i64 rl 65535) 40 = (q : Int) := ⟨(Int.tmod (bits .and .i64 rl 65535) 40).toNat, by rw [Int.tmod_eq_emod_of_nonneg hl0.1]; omega⟩
      have hq40 : q < 40 := by rw [Int.tmod_eq_emod_of_nonneg hl0.1] at hq; omega
      obtain ⟨ln, hln⟩ : ∃ ln : Nat, 1 + (q : Int) = (ln : Int) := ⟨1 + q, by omega⟩
      have hln1 : 1 ≤ ln := by omega
      have hln2 : ln ≤ 40 := by omega
      have hmv := tmod200 rm
      have hblt : b < wr.heap.size := by have := World.block_lt_of_cell? wr _ k0; simpa using this
      have HD := Lib.hid hD
      have HDn := Lib.hid hDn
      unfold maxLen at hDm
      have hbn : ¬ b = wr.heap.size := by omega
      have hbn' : ¬ wr.heap.size = b := by omega
      clear hcell hD hDn hrr hl0
      have hwl : IntKind.i64.wrap (ln : Int) = (ln : Int) := by rw [IntKind.wrap_i64]; omega
      go_upto_region 6 with fail
      go_cut [7] (fun s7 wx => s7 = .pointer (some ⟨wr.heap.size, 0, none⟩) ∧ Blk wx wr.heap.size 40 #[.int .i64 (kd : Int), .int .i64 (ln : Int), .int .i64 0, .slice none 0 0] ∧ Fr [] wr wx)
      case first =>
        go_region_law (fail)
        all_goals
          go_wp2_with fail
          go_meet
          exact ⟨rfl, (Blk.fresh wr _ _).fr ((Fr.refl [] _).drew) (by simp), ((Fr.refl [] wr).alloc _).drew⟩
      case rest =>
        obtain ⟨rfl, hb, hfx⟩ := hcut
        obtain ⟨w2, rfl⟩ : ∃ w2, w2 = wc := ⟨_, rfl⟩
        obtain ⟨b7, hb7⟩ : ∃ b7, wr.heap.size = b7 := ⟨_, rfl⟩
        rw [hb7] at hb hbn hbn' ⊢
        have c0 := hfx.cell k0 (by simp)
        have c1 := hfx.cell k1 (by simp)
        have c2 := hfx.cell k2 (by simp)
        have c3 := hfx.cell k3 (by simp)
        have HD2 := Lib.hid (HD.out.later hfx (by simp))
        obtain ⟨y0, y1, y2, y3⟩ := blk4 hb
        have f2 := hb.frozen 2
        have f3 := hb.frozen 3
        have HB := Lib.hid hb
        have HFx := Lib.hid hfx
        have hb7l : b7 < w2.heap.size := hb.lt
        have hbl2 : b < w2.heap.size := by have := World.block_lt_of_cell? w2 _ c0; simpa using this
        have hsb : s ≤ b7 := by omega
        have Hb7 := Lib.hid hb7
        clear hb hfx k0 k1 k2 k3 hblt hb7
        go_upto_if 35 with fail
        go_cut [36] (fun _ wx => ∃ D' dl d' da, Blk wx b7 40 #[.int .i64 (kd : Int), .int .i64 (ln : Int), .int .i64 0, .slice D' dl d'] ∧ da.length = dl ∧ (kd = 1 → dl = ln) ∧ (kd ≠ 1 → da = []) ∧ Rd wx D' da ∧ ((D' = none → d' = 0) ∧ dl ≤ d' ∧ d' ≤ maxLen) ∧ (∀ ad, D' = some ad → b7 < ad.block ∧ ad.block < wx.heap.size) ∧ Fr [b7] w2 wx)
        case first =>
          by_cases hk1 : kd = 1
          · subst hk1
            have hb3 : ¬ b7 = w2.heap.size := by omega
            have hb4 : ¬ w2.heap.size = b7 := by omega
            have hb5 : ¬ b = w2.heap.size := by omega
            have hb6 : ¬ w2.heap.size = b := by omega
            obtain ⟨m0, hm0⟩ : ∃ m0, min rd.length ln = m0 := ⟨_, rfl⟩
            have hmin : min (rd.length : Int) (ln : Int) = (m0 : Int) := by omega
            have hm1 : m0 ≤ d := by omega
            have hm2 : (m0 : Int) ≤ d := by omega
            have hm3 : m0 ≤ ln := by omega
            have hm4 : (0 : Int) ≤ m0 := by omega
            have HT0 : Hid ((rd.take m0).length = m0) := Lib.hid (by rw [List.length_take]; omega)
            go_upto_region 8 with fail
            go_cut [52] (fun _ wx => ∃ A5 c5, Blk wx b7 40 #[.int .i64 1, .int .i64 (ln : Int), .int .i64 0, .slice A5 m0 c5] ∧ Own wx w2.heap.size (.slice A5 m0 c5) (rd.take m0) ∧ Fr [b7] w2 wx)
            case first =>
              go_region_held3 (fun w' => w'.cell? ⟨b, o + j * 4 + 3, none⟩ = some (.slice D rd.length d) ∧ w'.cell? ⟨b7, 1, none⟩ = some (.int .i64 (ln : Int))) (first | exact ⟨c3, y1⟩ | exact ⟨q3, z1⟩ | exact ⟨((Fr.refl [b7] w5).setCell (by simp) _).cell q3 (by simpa using hbn), by rw [(HB5.out.put 3 _).cell]; rfl⟩ | go_keep) (first | (refine step_app _ rfl (.tmp 36) (.tmp 51) 23 rfl w2.heap.size i0 Try.underlying23 hi0 hz0 hz1 hz2 (.slice (some ⟨w2.heap.size, 0, none⟩) 0 0) [] 0 rfl (by rfl) ((Own.empty w2 w2.heap.size (Nat.le_refl _)).fr ((Fr.refl [] _).drew) (by simp)) D m0 d (rd.take m0) (by rfl) HT0.out (rd_take (HD2.out.later (((Fr.refl [] w2).alloc _).drew) (by simp)) m0) HDn.out (by omega) (by simp) ?_; intro A5 c5 w5 ho5 hf5 hl5; have hf6 : Fr [] w2 w5 := (((Fr.refl [] w2).alloc _).drew).trans hf5 (by simp [Value.ownBlock]); have hB5 := HB.out.fr hf6 (by simp); obtain ⟨z0, z1, z2, z3⟩ := blk4 hB5; have g3 := hB5.frozen 3; have q3 := hf6.cell c3 (by simp); have HB5 := Lib.hid hB5; have HO5 := Lib.hid ho5; have HF6 := Lib.hid hf6; clear ho5 hf5 hl5 hf6 hB5))
              all_goals
                go_wp2_with fail
                go_meet
                have hst : Fr [b7] w5 (w5.setCell ⟨b7, 3, none⟩ (.slice A5 m0 c5)) := (Fr.refl [b7] w5).setCell (by simp) _
                have hbp := HB5.out.put 3 (.slice A5 m0 c5)
                simp only [List.setIfInBounds_toArray, List.set_cons_zero, List.set_cons_succ] at hbp
                have ho := HO5.out
                rw [List.nil_append, Nat.zero_add] at ho
                exact ⟨A5, c5, hbp, ho.fr hst (fun k hk hm => by have := (ho.lt k hk).1; simp at hm; omega), HF6.out.nil.tr hst⟩
            case rest =>
              obtain ⟨A5, c5, hB5, hO5, hF5⟩ := hcut
              have HB5 := Lib.hid hB5
              have HO5 := Lib.hid hO5
              have HF5 := Lib.hid hF5
              clear hB5 hO5 hF5 c0 c1 c2 c3 y0 y1 y2 y3 f2 f3
              have hx8 : IntKind.u8.wrap (j : Int) = (j : Int) := by rw [IntKind.wrap_u8]; omega
              have hxv : (j : Int) = ((UInt8.ofNat j).toNat : Int) := by simp; omega
              have Hxv := Lib.hid hxv
              clear hxv
              go_wp2_with fail
              go_loopw [54] (fun _ wl => ∃ (m : Nat) (Am : Option Addr) (cm : Nat) (da : List UInt8), m ≤ ln ∧ da.length = m ∧ Blk wl b7 40 #[.int .i64 1, .int .i64 (ln : Int), .int .i64 0, .slice Am m cm] ∧ Own wl w2.heap.size (.slice Am m cm) da ∧ Fr [b7] w2 wl) (fun _ wl => ln - dataLen wl b7)
              case atStart => exact ⟨m0, A5, c5, rd.take m0, hm3, HT0.out, HB5.out, HO5.out, HF5.out⟩
              case round =>
                obtain ⟨m, Am, cm, da, hm, hdl, hBm, hOm, hFm⟩ := hrel
                obtain ⟨z0, z1, z2, z3⟩ := blk4 hBm
                have g3 := hBm.frozen 3
                have HBm := Lib.hid hBm
                have HOm := Lib.hid hOm
                have HFm := Lib.hid hFm
                have Hdl := Lib.hid hdl
                have hblm : b7 < wr.heap.size := hBm.lt
                have hwlm : w2.heap.size ≤ wr.heap.size := hFm.size
                have hbm1 : ¬ b7 = wr.heap.size := by omega
                have hbm2 : ¬ wr.heap.size = b7 := by omega
                clear hBm hOm hFm hdl HB5 HO5 HF5
                by_cases hlt2 : m < ln
                · have e3 : (m : Int) < ln := by omega
                  have hdm : dataLen wr b7 = m := by unfold dataLen; rw [z3]
                  have Hdm := Lib.hid hdm
                  clear hdm
                  go_wp2_with (at_builtin; refine wpList_appN _ rfl (.tmp 61) (.tmp 64) 23 rfl w2.heap.size i0 Try.underlying23 hi0 hz0 hz1 hz2 (.slice Am m cm) da m Hdl.out rfl (HOm.out.fr ((Fr.refl [] wr).alloc _) (by simp)) (some ⟨wr.heap.size, 0, none⟩) 1 1 [UInt8.ofNat j] rfl rfl (rd_one' wr _ (UInt8.ofNat j) Hxv.out) (by simp) (by omega) (by simp; omega) ?_)
                  intro A6 c6 w6 ho6 hf6 _
                  have hx7 : ∀ k ∈ (Value.slice Am m cm).ownBlock.toList, w2.heap.size ≤ k := fun k hk => (HOm.out.lt k (by simpa using hk)).1
                  have hB6 := (HBm.out.fr ((Fr.refl [] wr).alloc _) (by simp)).fr hf6 (fun hm => by have := hx7 b7 hm; omega)
                  have HX6 : Hid (∀ k ∈ (Value.slice Am m cm).ownBlock.toList, w2.heap.size ≤ k) := Lib.hid hx7
                  have HF6 := Lib.hid hf6
                  obtain ⟨q0, q1, q2, q3⟩ := blk4 hB6
                  have r3 := hB6.frozen 3
                  have HB6 := Lib.hid hB6
                  have HO6 := Lib.hid ho6
                  clear ho6 hf6 hx7 hB6
                  go_wp2
                  go_roundw
                  case rel =>
                    have hst : Fr [b7] w6 (w6.setCell ⟨b7, 3, none⟩ (.slice A6 (m + 1) c6)) := (Fr.refl [b7] w6).setCell (by simp) _
                    have hbp := HB6.out.put 3 (.slice A6 (m + 1) c6)
                    simp only [List.setIfInBounds_toArray, List.set_cons_zero, List.set_cons_succ] at hbp
                    refine ⟨m + 1, A6, c6, da ++ [UInt8.ofNat j], by omega, by simp [Hdl.out], hbp, HO6.out.fr hst (fun k hk hm => by have := (HO6.out.lt k hk).1; simp at hm; omega), ?_⟩
                    exact ((HFm.out.alloc _).trans HF6.out (fun k hk => .inr (HX6.out k hk))).trans hst (by simp)
                  case measure =>
                    have h1 : dataLen (w6.setCell ⟨b7, 3, none⟩ (.slice A6 (m + 1) c6)) b7 = m + 1 := by unfold dataLen; rw [(HB6.out.put 3 _).cell]; rfl
                    show ln - dataLen (w6.setCell ⟨b7, 3, none⟩ (.slice A6 (m + 1) c6)) b7 < ln - dataLen wr b7
                    rw [h1, Hdm.out]
                    omega
                · obtain rfl : m = ln := by omega
                  have e3 : ¬ (m : Int) < m := by omega
                  go_wp2_with fail
                  go_meet
                  refine ⟨Am, m, cm, da, HBm.out, Hdl.out, fun _ => rfl, fun h => absurd rfl h, HOm.out.rd, ⟨Ref.own_nilcap HOm.out, HOm.out.caps.1, ?_⟩, ?_, HFm.out⟩
                  · obtain ⟨_, _, e, _, _, _, h, _⟩ := HOm.out.slice
                    injection e with e1 e2 e3
                    rw [e3]
                    exact h
                  · intro ad e
                    obtain ⟨_, _, ev, _, hb', _⟩ := HOm.out.slice
                    injection ev with ev1 ev2 ev3
                    subst ev1 ev3
                    have := HOm.out.lt _ (hb' ad e)
                    omega
          · rw [show ((kd : Int) == 1) = false by simp; omega]
            go_wp2_with fail
            go_meet
            exact ⟨none, 0, 0, [], HB.out, rfl, fun h => absurd h hk1, fun _ => rfl, rd_nil _, ⟨fun _ => rfl, Nat.le_refl _, by simp [maxLen]⟩, by simp, Fr.refl _ _⟩
        case rest =>
          obtain ⟨D', dl, d', da, hB3, hda, hd1, hd2, hrd, hdd, hdb, hF3⟩ := hcut
          obtain ⟨w3, rfl⟩ : ∃ w3, w3 = wc := ⟨_, rfl⟩
          obtain ⟨z0, z1, z2, z3⟩ := blk4 hB3
          have g2 := hB3.frozen 2
          have x2 := hF3.cell c2 (by simpa using hbn)
          have HB3 := Lib.hid hB3
          have Hda := Lib.hid hda
          have Hd1 := Lib.hid hd1
          have Hd2 := Lib.hid hd2
          have HRd := Lib.hid hrd
          have Hdd := Lib.hid hdd
          have Hdb := Lib.hid hdb
          have HF3 := Lib.hid hF3
          clear hB3 hda hd1 hd2 hrd hdd hdb hF3 c0 c1 c2 c3 y0 y1 y2 y3 f2 f3 HB HD HD2 HDn
          go_upto_if 69 with fail
          go_cut [70] (fun _ wx => ∃ mv, Blk wx b7 40 #[.int .i64 (kd : Int), .int .i64 (ln : Int), .int .i64 mv, .slice D' dl d'] ∧ (kd < 2 → mv = 0) ∧ -1073741824 ≤ mv ∧ mv ≤ 1073741824 ∧ Fr [b7] w3 wx)
          case first =>
            by_cases hk2 : 2 ≤ kd
            · rw [show decide ((2 : Int) ≤ (kd : Int)) = true by simp; omega]
              go_wp2_with fail
              go_meet
              have hbp := HB3.out.put 2 (.int .i64 (Int.tmod rm 200))
              simp only [List.setIfInBounds_toArray, List.set_cons_zero, List.set_cons_succ] at hbp
              exact ⟨Int.tmod rm 200, hbp, fun h => by omega, by omega, by omega, (Fr.refl [b7] w3).setCell (by simp) _⟩
            · rw [show decide ((2 : Int) ≤ (kd : Int)) = false by simp; omega]
              go_wp2_with fail
              go_meet
              exact ⟨0, HB3.out, fun _ => rfl, by omega, by omega, Fr.refl _ _⟩
          case rest =>
            obtain ⟨mv, hB4, hm1, hm2, hm3, hF4⟩ := hcut
            obtain ⟨w4, rfl⟩ : ∃ w4, w4 = wc := ⟨_, rfl⟩
            obtain ⟨z0, z1, z2, z3⟩ := blk4 hB4
            have HOk4 : Hid (Ok ⟨kd, ln, mv, da⟩) := Lib.hid ⟨hkd4, hln1, by simp only; omega, fun h => by simp only at h ⊢; rw [Hda.out]; exact Hd1.out h, fun h => Hd2.out h, hm1, hm2, hm3⟩
            have hFa : Fr [b7] wr w4 := (HFx.out.nil.tr HF3.out).tr hF4
            have hb7e : wr.heap.size = b7 := Hb7.out
            have hOw4 := HOw.out.fr hFa (by simp; omega)
            have hlt := HOw.out.lt
            have HGd : Hid (∀ W, Fr [] w4 W → Acts.Good W s (.slice A' j cc) (⟨kd, ln, mv, da⟩, D', d')) := Lib.hid (by
              intro W hW
              refine ⟨(HRd.out.fr hF4 (fun ad e hm => by have := (Hdb.out ad e).1; simp at hm; omega)).later hW (by simp), by simpa [Hda.out] using Hdd.out, fun ad e => ?_⟩
              have h1 := Hdb.out ad e
              have h2 := hF4.size
              have h3 := hW.size
              refine ⟨by omega, by omega, fun e2 => ?_⟩
              have := hlt _ e2
              omega)
            have HOw4 := Lib.hid hOw4
            have HF4 : Hid (Fr [] w w4) := Lib.hid (HF.out.trans hFa (by simp [Hs.out]; omega))
            have hw4 : s ≤ w4.heap.size := by rw [← Hs.out]; exact HF4.out.size
            have HLd := Lib.hid (Acts.act_laid w4 (⟨kd, ln, mv, da⟩, D', d') 40 dl w4.heap.size Hda.out rfl)
            obtain ⟨t2, ht2⟩ : ∃ t2, tt + ln = t2 := ⟨_, rfl⟩
            have htw : (tt : Int) + (ln : Int) = (t2 : Int) := by omega
            have Ht2 := Lib.hid ht2
            have ht2b : t2 ≤ 1000 := by omega
            clear ht2
            have hb74 : ¬ b7 = w4.heap.size := by have := hB4.lt; omega
            clear hB4 hF4 hFa hOw4 hlt hb7e
            go_wp2_with (at_builtin; refine Acts.wpList_acts _ rfl (.tmp 81) (.tmp 83) 22 rfl s 40 iA Try.underlying22 hiA hzA hzA1 hzA2 (.slice A' j cc) L (j + 1) (by rw [HLl.out]) rfl (HOw4.out.fr ((Fr.refl [] w4).alloc _) (by simp)) w4.heap.size 1 (⟨kd, ln, mv, da⟩, D', d') rfl HLd.out (HGd.out _ ((Fr.refl [] w4).alloc _)) (by rw [HLl.out]; omega) (by simp; omega) ?_)
            intro A9 c9 w9 ho9 hf9
            have HO9 := Lib.hid ho9
            have HF9 : Hid (Fr [] w w9) := Lib.hid ((HF4.out.alloc _).trans hf9 (by intro k hk; exact .inr (by have := (HOw4.out.lt k (by simpa using hk)).1; have := Hs.out; omega)))
            clear ho9 hf9
            go_wp2
            go_roundw
            case rel =>
              refine ⟨j + 1, c9, A9, L ++ [⟨kd, ln, mv, da⟩], rfl, ?_, by go_num, by omega, by omega, by simp [HLl.out], HO9.out, ?_, ?_, HF9.out⟩
              · rw [total_append, HTt.out]; simp only [total, Nat.add_zero]; rw [Ht2.out]
              · intro a ha
                rcases List.mem_append.1 ha with h | h
                · exact HOk.out a h
                · obtain rfl := List.mem_singleton.1 h; exact HOk4.out
              · rw [total_append, HTt.out]; simp only [total, Nat.add_zero]; omega
            case measure => simp [intOf]; omega
    · have HX := Lib.hid (HQ.out wr A' cc L (by rw [HLl.out]; exact HOw.out) HOk.out (by rw [HTt.out]; omega) HF.out)
      rw [HLl.out, HTt.out] at HX
      by_cases hjn2 : j < n
      · have e1 : (j : Int) < n := by omega
        have e2 : ¬ (j : Int) < 12 := by omega
        go_wp2
        exact HX.out
      · have e1 : ¬ (j : Int) < n := by omega
        go_wp2
        exact HX.out

end Bps
end Go.Proofs.Ytkefckoffnlkcaa
