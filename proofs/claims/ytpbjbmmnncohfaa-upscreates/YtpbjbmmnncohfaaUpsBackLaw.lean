/-
  picklocklaw06.UpsBack returns true for every input: a patch makes the output of the input, and the input of the output. No condition.
-/
import Derived.Test.YtpbjbmmnncohfaaUpsShown
import Derived.Test.YtpbjbmmnncohfaaCrcRef
import Derived.Test.YtpbjbmmnncohfaaOctSame
namespace Go.Proofs.Ytpbjbmmnncohfaa
open Go.RowKit
namespace Ups

theorem patch_small (a b : List UInt8) (ha : a.length ≤ 2000) (hb : b.length ≤ 2000) : (patch a b).length ≤ 14100 := by
  have h1 := hk_len (dif a b).length 0 (dif a b) (Nat.le_refl _) (by rw [dif_length]; unfold Var.most; omega)
  have h2 := Var.putV_le5 (u := a.length) (by unfold Var.most; omega)
  have h3 := Var.putV_le5 (u := b.length) (by unfold Var.most; omega)
  rw [dif_length] at h1
  rw [patch_len]
  unfold inner hunks
  simp only [List.length_append]
  omega

theorem own_nil {w : World} {B n c : Nat} {A : Option Addr} {l : List UInt8} (h : Own w B (.slice A n c) l) : A = none → c = 0 := by
  intro hA
  rcases h.form0 with ⟨_, _, hc⟩ | ⟨g, hg⟩
  · exact hc
  · rw [hA] at hg; cases hg

set_option maxRecDepth 100000 in
set_option maxHeartbeats 4000000 in
theorem back_walk (a0 : Option Addr) (cap0 : Nat) (l : List UInt8) (a1 : Option Addr) (cap1 : Nat) (k : List UInt8) (w : World) (hr : Rd w a0 l) (hc : a0 = none → cap0 = 0) (hlc : l.length ≤ cap0) (_hcm : cap0 ≤ maxLen) (hr1 : Rd w a1 k) (hc1 : a1 = none → cap1 = 0) (hlc1 : k.length ≤ cap1) (_hcm1 : cap1 ≤ maxLen) :
    Calls Try.prog 4 #[.slice a0 l.length cap0, .slice a1 k.length cap1] w fun e w' => e = .returned (.bool true) ∧ Below w.heap.size w w' := by
  obtain ⟨i0, hi, hz0, hz1, hz2⟩ := info_parts info5
  have HR := Lib.hid hr
  have HC := Lib.hid hc
  have HR1 := Lib.hid hr1
  have HC1 := Lib.hid hc1
  have HL := Lib.hid (take_len l 2000 (by omega))
  have HL1 := Lib.hid (take_len k 2000 (by omega))
  have hcnt : (min (l.length : Int) 2000).toNat ≤ 2000 := by omega
  have hcnt1 : (min (k.length : Int) 2000).toNat ≤ 2000 := by omega
  unfold maxLen at _hcm _hcm1
  clear hr hc hr1 hc1
  go_enter Try.func4, Try.ntmps4
  go_wp2_with (first
    | (go_at_call 7; refine (shown6 _).mono ?_; rintro e w1 ⟨rfl, hf1⟩; have HF1 := Lib.hid hf1; have hs1 := hf1.size; clear hf1)
    | (at_builtin; refine wpList_app _ rfl (.tmp 14) (.tmp 19) 22 rfl w.heap.size i0 Try.underlying22 hi hz0 hz1 hz2 (.slice (some ⟨w1.heap.size, 0, none⟩) 0 0) [] rfl (Own.empty w1 _ hs1) a0 _ cap0 (l.take (min (l.length : Int) 2000).toNat) rfl HL.out (rd_take (HR.out.later (HF1.out.alloc _) (by simp)) _) HC.out (by simp; omega) (by simp; omega) ?_))
  intro A1 c1 w2 ho2 hf2 hlies
  have HF2 : Hid (Fr [] w w2) := Lib.hid ((HF1.out.alloc _).trans hf2 (by simp [Value.ownBlock]; omega))
  have HM1 : Hid ((l.take (min (l.length : Int) 2000).toNat).length = (min (l.length : Int) 2000).toNat) := HL.out
  have HX : Hid (Rd w2 A1 (l.take (min (l.length : Int) 2000).toNat)) := Lib.hid ho2.rd
  have hs2 := HF2.out.size
  clear ho2 hf2 HR HC HL hlc hs1 hlies
  generalize (min (l.length : Int) 2000).toNat = n1 at *
  generalize l.take n1 = x at *
  go_wp2_with (at_builtin; refine wpList_app _ rfl (.tmp 21) (.tmp 26) 22 rfl w.heap.size i0 Try.underlying22 hi hz0 hz1 hz2 (.slice (some ⟨w2.heap.size, 0, none⟩) 0 0) [] rfl (Own.empty w2 _ hs2) a1 _ cap1 (k.take (min (k.length : Int) 2000).toNat) rfl HL1.out (rd_take (HR1.out.later (HF2.out.alloc _) (by simp)) _) HC1.out (by simp; omega) (by simp; omega) ?_)
  intro A2 c2 w3 ho3 hf3 hlies
  have HF3' : Hid (Fr [] w2 w3) := Lib.hid (((Fr.refl [] w2).alloc _).trans hf3 (by simp [Value.ownBlock]))
  have HF3 : Hid (Fr [] w w3) := Lib.hid (HF2.out.tr HF3'.out)
  have HM2 : Hid ((k.take (min (k.length : Int) 2000).toNat).length = (min (k.length : Int) 2000).toNat) := HL1.out
  have HY : Hid (Rd w3 A2 (k.take (min (k.length : Int) 2000).toNat)) := Lib.hid ho3.rd
  have HX3 := Lib.hid (HX.out.later HF3'.out (by simp))
  clear ho3 hf3 HR1 HC1 HL1 hlc1 hs2 hlies HX
  generalize (min (k.length : Int) 2000).toNat = n2 at *
  generalize k.take n2 = y at *
  go_wp2_with fail
  refine (create_any w3 A1 A2 n1 c1 n2 c2 x y HM1.out HM2.out HX3.out HY.out (by omega) (by omega)).mono ?_
  rintro e w4 ⟨g, rfl, hg4, hb4, hf4⟩
  have HR4 := Lib.hid (rd_blk hb4)
  have HF4 := Lib.hid (HF3.out.tr hf4)
  have hps := patch_small x y (by rw [HM1.out]; exact hcnt) (by rw [HM2.out]; exact hcnt1)
  obtain ⟨L, hL⟩ : ∃ L, (patch x y).length = L := ⟨_, rfl⟩
  rw [hL] at hps ⊢
  have HLp := Lib.hid hL
  have HX4 := Lib.hid (HX3.out.later hf4 (by simp))
  have HY4 := Lib.hid (HY.out.later hf4 (by simp))
  clear hg4 hb4 hf4 hL HX3 HY
  go_wp2_with fail
  refine (apply_in w4 (some ⟨g, 0, none⟩) A1 L L n1 c1 x y HLp.out HR4.out (Nat.le_refl _) (by unfold maxLen; omega) (by omega) (by rw [HM2.out]; omega) HM1.out HX4.out (by omega)).mono ?_
  rintro e w5 ⟨g5, rfl, hb5, hf5⟩
  rw [HM2.out]
  have HR5 := Lib.hid (rd_blk hb5)
  have HF5 := Lib.hid hf5
  clear hb5 hf5
  -- the law's end, whatever the second Apply has left
  by_cases hlen : n1 = n2
  · subst hlen
    obtain ⟨s1, hs1⟩ : ∃ s1, Crc.next 0#32 x = s1 := ⟨_, rfl⟩
    obtain ⟨s2, hs2⟩ : ∃ s2, Crc.next 0#32 y = s2 := ⟨_, rfl⟩
    have HS1 := Lib.hid hs1
    have HS2 := Lib.hid hs2
    by_cases hsum : s1 = s2
    · subst hsum
      by_cases hxy : x = y
      · subst hxy
        clear hs1 hs2
        go_wp2_with fail
        refine (apply_in w5 (some ⟨g, 0, none⟩) A2 L L n1 c2 x x HLp.out (HR4.out.later HF5.out (by simp)) (Nat.le_refl _) (by unfold maxLen; omega) (by omega) (by rw [HM2.out]; omega) HM2.out (HY4.out.later HF5.out (by simp)) (by omega)).mono ?_
        rintro e w6 ⟨g6, rfl, hb6, hf6⟩
        rw [HM2.out]
        have HR6 := Lib.hid (rd_blk hb6)
        have HF6 := Lib.hid hf6
        have HX6 := Lib.hid (HX4.out.later (HF5.out.tr hf6) (by simp))
        have HY6 := Lib.hid (HY4.out.later (HF5.out.tr hf6) (by simp))
        have HR56 := Lib.hid (HR5.out.later hf6 (by simp))
        clear hb6 hf6
        go_wp2_with fail
        refine (Crc.rsum_any w6 A1 n1 c1 x HM1.out HX6.out (by omega)).mono ?_
        rintro e w7 ⟨rfl, rfl⟩
        go_wp2_with fail
        refine (Crc.rsum_any w6 A2 n1 c2 x HM2.out HY6.out (by omega)).mono ?_
        rintro e w7 ⟨rfl, rfl⟩
        go_wp2_with fail
        refine (same_eq w6 A1 A2 n1 n1 c1 c2 x HM1.out HM2.out HX6.out HY6.out).mono ?_
        rintro e w7 ⟨rfl, rfl⟩
        go_wp2_with fail
        refine (same_eq w6 (some ⟨g5, 0, none⟩) A2 n1 n1 n1 c2 x HM2.out HM2.out HR56.out HY6.out).mono ?_
        rintro e w7 ⟨rfl, rfl⟩
        go_wp2_with fail
        refine (same_eq w6 (some ⟨g6, 0, none⟩) A1 n1 n1 n1 c1 x HM2.out HM1.out HR6.out HX6.out).mono ?_
        rintro e w7 ⟨rfl, rfl⟩
        go_wp2
        go_ret
        exact ⟨rfl, ((HF4.out.tr HF5.out).tr HF6.out).below (by simp) (Nat.le_refl _)⟩
      · have HE : Hid (meas y = meas x) := Lib.hid (by unfold meas sum; rw [HM1.out, HM2.out, hs1, hs2])
        have hne : (x == y) = false := by simpa using hxy
        have HA := Lib.hid (apply_made w5 (some ⟨g, 0, none⟩) A2 L L n1 c2 x y y HLp.out (HR4.out.later HF5.out (by simp)) (Nat.le_refl _) (by unfold maxLen; omega) (by omega) (by rw [HM1.out]; omega) (by rw [HM2.out]; omega) HM2.out (HY4.out.later HF5.out (by simp)) (by omega))
        clear hs1 hs2
        go_wp2_with fail
        refine HA.out.mono ?_
        rintro e w6 ⟨hO, -, -⟩
        obtain ⟨hf6, hO⟩ := hO HE.out
        have HF6 := Lib.hid hf6
        have HX6 := Lib.hid (HX4.out.later (HF5.out.tr hf6) (by simp))
        have HY6 := Lib.hid (HY4.out.later (HF5.out.tr hf6) (by simp))
        have HR56 := Lib.hid (HR5.out.later hf6 (by simp))
        have HSm := Lib.hid (same_any w6 A1 A2 n1 n1 c1 c2 x y HM1.out HM2.out HX6.out HY6.out)
        rw [hne] at HSm
        clear hf6 HA
        rcases hO with ⟨rfl, -⟩ | ⟨g6, rfl, -, -, -⟩
        all_goals
          go_wp2_with fail
          refine (Crc.rsum_any w6 A1 n1 c1 x HM1.out HX6.out (by omega)).mono ?_
          rintro e w7 ⟨rfl, rfl⟩
          rw [HS1.out]
          go_wp2_with fail
          refine (Crc.rsum_any w6 A2 n1 c2 y HM2.out HY6.out (by omega)).mono ?_
          rintro e w7 ⟨rfl, rfl⟩
          rw [HS2.out]
          go_wp2_with fail
          refine HSm.out.mono ?_
          rintro e w7 ⟨rfl, rfl⟩
          go_wp2_with fail
          refine (same_eq w6 (some ⟨g5, 0, none⟩) A2 n1 n1 n1 c2 y HM2.out HM2.out HR56.out HY6.out).mono ?_
          rintro e w7 ⟨rfl, rfl⟩
          go_wp2
          go_ret
          exact ⟨rfl, ((HF4.out.tr HF5.out).tr HF6.out).below (by simp) (Nat.le_refl _)⟩
    · have HE : Hid (meas y ≠ meas x) := Lib.hid (by
        intro h
        have h2 : sum y = sum x := congrArg Prod.snd h
        unfold sum at h2
        rw [hs1, hs2] at h2
        exact hsum h2.symm)
      have hsu : (Crc.u s1 == Crc.u s2) = false := by simp; exact fun h => hsum (Crc.u_inj h)
      clear hs1 hs2
      go_wp2_with fail
      refine (apply_out w5 (some ⟨g, 0, none⟩) A2 L L n1 c2 x y HLp.out (HR4.out.later HF5.out (by simp)) (Nat.le_refl _) (by unfold maxLen; omega) (by omega) (by rw [HM1.out]; omega) HM2.out (HY4.out.later HF5.out (by simp)) (by omega) HE.out).mono ?_
      rintro e w6 ⟨g6, rfl, hb6, hf6⟩
      rw [HM1.out]
      have HR6 := Lib.hid (rd_blk hb6)
      have HF6 := Lib.hid hf6
      have HX6 := Lib.hid (HX4.out.later (HF5.out.tr hf6) (by simp))
      have HY6 := Lib.hid (HY4.out.later (HF5.out.tr hf6) (by simp))
      have HR56 := Lib.hid (HR5.out.later hf6 (by simp))
      clear hb6 hf6
      go_wp2_with fail
      refine (Crc.rsum_any w6 A1 n1 c1 x HM1.out HX6.out (by omega)).mono ?_
      rintro e w7 ⟨rfl, rfl⟩
      rw [HS1.out]
      go_wp2_with fail
      refine (Crc.rsum_any w6 A2 n1 c2 y HM2.out HY6.out (by omega)).mono ?_
      rintro e w7 ⟨rfl, rfl⟩
      rw [HS2.out]
      go_wp2_with fail
      refine (same_eq w6 (some ⟨g5, 0, none⟩) A2 n1 n1 n1 c2 y HM2.out HM2.out HR56.out HY6.out).mono ?_
      rintro e w7 ⟨rfl, rfl⟩
      go_wp2_with fail
      refine (same_eq w6 (some ⟨g6, 0, none⟩) A1 n1 n1 n1 c1 x HM1.out HM1.out HR6.out HX6.out).mono ?_
      rintro e w7 ⟨rfl, rfl⟩
      go_wp2
      go_ret
      exact ⟨rfl, ((HF4.out.tr HF5.out).tr HF6.out).below (by simp) (Nat.le_refl _)⟩
  · have HE : Hid (meas y ≠ meas x) := Lib.hid (by
      intro h
      have h2 : y.length = x.length := congrArg Prod.fst h
      rw [HM1.out, HM2.out] at h2
      exact hlen h2.symm)
    have hsu : ((n1 : Int) == (n2 : Int)) = false := by simp; omega
    have hsu2 : ¬ (n1 : Int) = (n2 : Int) := by omega
    go_wp2_with fail
    refine (apply_out w5 (some ⟨g, 0, none⟩) A2 L L n2 c2 x y HLp.out (HR4.out.later HF5.out (by simp)) (Nat.le_refl _) (by unfold maxLen; omega) (by omega) (by rw [HM1.out]; omega) HM2.out (HY4.out.later HF5.out (by simp)) (by omega) HE.out).mono ?_
    rintro e w6 ⟨g6, rfl, hb6, hf6⟩
    rw [HM1.out]
    have HR6 := Lib.hid (rd_blk hb6)
    have HF6 := Lib.hid hf6
    have HX6 := Lib.hid (HX4.out.later (HF5.out.tr hf6) (by simp))
    have HY6 := Lib.hid (HY4.out.later (HF5.out.tr hf6) (by simp))
    have HR56 := Lib.hid (HR5.out.later hf6 (by simp))
    clear hb6 hf6
    go_wp2_with fail
    refine (same_eq w6 (some ⟨g5, 0, none⟩) A2 n2 n2 n2 c2 y HM2.out HM2.out HR56.out HY6.out).mono ?_
    rintro e w7 ⟨rfl, rfl⟩
    go_wp2_with fail
    refine (same_eq w6 (some ⟨g6, 0, none⟩) A1 n1 n1 n1 c1 x HM1.out HM1.out HR6.out HX6.out).mono ?_
    rintro e w7 ⟨rfl, rfl⟩
    go_wp2
    go_ret
    exact ⟨rfl, ((HF4.out.tr HF5.out).tr HF6.out).below (by simp) (Nat.le_refl _)⟩

end Ups
end Go.Proofs.Ytpbjbmmnncohfaa
