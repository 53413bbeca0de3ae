/-
  Contract of ups' parse, of a patch that was made.
-/
import Derived.Test.YtpbjbmmnncohfaaUpsParse
import Derived.Deep.DeepCutAuto
namespace Go.Proofs.Ytpbjbmmnncohfaa
open Go.RowKit
namespace Ups

/-- What stands between the beginning and the sums. -/
def inner (a b : List UInt8) : List UInt8 := Var.putV a.length ++ (Var.putV b.length ++ (hunks a b).flatMap hkB)
theorem patch_parts (a b : List UInt8) : patch a b = [85, 80, 83, 49] ++ (inner a b ++ (le4 (sum a) ++ (le4 (sum b) ++ le4 (sum (body a b))))) := by
  unfold patch signed body inner
  simp [List.append_assoc]
theorem patch_len (a b : List UInt8) : (patch a b).length = (inner a b).length + 16 := by
  rw [patch_parts]
  simp [le4_length]
theorem patch_take4 (a b : List UInt8) : (patch a b).take 4 = [85, 80, 83, 49] := by
  rw [patch_parts]
  rfl
theorem drop_of {l pre post : List UInt8} (h : l = pre ++ post) (k : Nat) (hk : pre.length = k) : l.drop k = post := by rw [h, ← hk, List.drop_left]
theorem patch_inner (a b : List UInt8) (z : Nat) (hz : (inner a b).length = z) : ((patch a b).drop 4).take z = inner a b := by
  rw [drop_of (patch_parts a b) 4 rfl, ← hz, List.take_left]
theorem patch_sum1 (a b : List UInt8) (t : Nat) (ht : (inner a b).length + 4 = t) : word4 ((patch a b).drop t) = sum a := by
  rw [drop_of (pre := [85, 80, 83, 49] ++ inner a b) (post := le4 (sum a) ++ (le4 (sum b) ++ le4 (sum (body a b)))) (by rw [patch_parts]; simp) t (by simp; omega), word4_le4]
theorem patch_sum2 (a b : List UInt8) (t : Nat) (ht : (inner a b).length + 4 = t) : word4 ((patch a b).drop (t + 4)) = sum b := by
  rw [drop_of (pre := [85, 80, 83, 49] ++ inner a b ++ le4 (sum a)) (post := le4 (sum b) ++ le4 (sum (body a b))) (by rw [patch_parts]; simp [List.append_assoc]) (t + 4) (by simp [le4_length]; omega), word4_le4]
theorem patch_sum3 (a b : List UInt8) (f : Nat) (hf : (inner a b).length + 12 = f) : word4 ((patch a b).drop f) = sum ((patch a b).take f) := by
  have h1 : patch a b = body a b ++ le4 (sum (body a b)) := rfl
  have h2 : (body a b).length = f := by
    have := patch_len a b
    rw [h1, List.length_append, le4_length] at this
    omega
  have h3 : (patch a b).take f = body a b := by rw [h1, ← h2, List.take_left]
  rw [h3, drop_of h1 f h2]
  have := word4_le4 (sum (body a b)) []
  rwa [List.append_nil] at this

/-- What parse leaves of a patch that was made. -/
def Parsed (w : World) (a b : List UInt8) (e : Ending) (w' : World) : Prop :=
  ∃ p g, e = .returned (.tuple #[.pointer (some ⟨p, 0, none⟩), .int .i64 0]) ∧ w.heap.size ≤ p ∧ w.heap.size ≤ g ∧ Pt w' p g (meas a) (meas b) (dif a b) ∧ Fr [] w w'

set_option maxRecDepth 100000 in
set_option maxHeartbeats 2000000 in
theorem parse_made (w : World) (A : Option Addr) (n c : Nat) (a b : List UInt8) (hn : (patch a b).length = n) (hr : Rd w A (patch a b)) (hc : n ≤ c) (hc2 : c ≤ maxLen) (hN : n ≤ 1000000000) (ha : a.length ≤ 16777216) (hb : b.length ≤ 16777216) :
    Calls Try.prog 21 #[.slice A n c] w (Parsed w a b) := by
  have h18 := patch_long a b
  have hlen := patch_len a b
  rw [hn] at h18 hlen
  obtain ⟨b0, o, rfl, hcell⟩ := hr (by omega)
  have e1 : ¬ (n : Int) < 18 := by omega
  have e2 : (4 : Int) ≤ c := by omega
  have e3 : 4 ≤ c := by omega
  have hne : ((patch a b).take 4 == [85, 80, 83, 49]) = true := by simp [patch_take4]
  have hs := run_str (P := Try.prog) (w := w) 22 9 5 (cap := c) Try.underlying22 Try.underlying5 Try.underlying9 (rd_take hr 4)
  rw [show ((patch a b).take 4).length = 4 by simp; omega] at hs
  obtain ⟨t, ht⟩ : ∃ t, n - 12 = t := ⟨_, rfl⟩
  have ht1 : (n : Int) - 12 = (t : Int) := by omega
  have ht2 : n - t = 12 := by omega
  have ht3 : (t : Int) ≤ c := by omega
  have ht4 : (4 : Int) ≤ t := by omega
  have ht5 : ¬ c = t := by omega
  have ht6 : (t : Int) ≤ n := by omega
  have ht7 : 4 ≤ t := by omega
  have ht8 : t ≤ c := by omega
  have ht9 : t ≤ n := by omega
  have hc4 : ¬ c = 4 := by omega
  obtain ⟨f, hf⟩ : ∃ f, n - 4 = f := ⟨_, rfl⟩
  have hf1 : (n : Int) - 4 = (f : Int) := by omega
  have hf2 : f ≤ c := by omega
  have hf3 : (f : Int) ≤ c := by omega
  obtain ⟨d, hd⟩ : ∃ d, c - t = d := ⟨_, rfl⟩
  have hd1 : 12 ≤ d := by omega
  have hd2 : ¬ d = 8 := by omega
  have hd3 : (8 : Int) ≤ d := by omega
  have hd4 : ¬ d = 4 := by omega
  have hd5 : (4 : Int) ≤ d := by omega
  have hwf : IntKind.i64.wrap (f : Int) = (f : Int) := by rw [IntKind.wrap_i64]; omega
  have hf0 : (0 : Int) ≤ f := by omega
  have HCut : Hid (∀ W k q z, Fr [] w W → o + k = q → z = (patch a b).length - k → Rd W (some ⟨b0, q, none⟩) ((patch a b).drop k)) := Lib.hid (by
    rintro W k q z hW rfl rfl
    have h1 := Rd.cut hcell k ((patch a b).length - k)
    rw [List.take_of_length_le (by simp)] at h1
    exact h1.later hW (by simp))
  have HR8 : Hid (∀ W, Fr [] w W → Rd W (some ⟨b0, o + t + 8, none⟩) ((patch a b).drop f)) := Lib.hid fun W hW => HCut.out W f _ _ hW (by omega) rfl
  have HL8 : Hid (((patch a b).drop f).length = 4) := Lib.hid (by rw [List.length_drop]; omega)
  have HR0 : Hid (∀ W, Fr [] w W → Rd W (some ⟨b0, o, none⟩) ((patch a b).take f)) := Lib.hid fun W hW => (rd_take hr f).later hW (by simp)
  have HLf : Hid (((patch a b).take f).length = f) := Lib.hid (by rw [List.length_take]; omega)
  have HRs : Hid (∀ W, Fr [] w W → Rd W (some ⟨b0, o + t, none⟩) ((patch a b).drop t)) := Lib.hid fun W hW => HCut.out W t _ _ hW rfl rfl
  have HLs : Hid (((patch a b).drop t).length = 12) := Lib.hid (by rw [List.length_drop]; omega)
  have HRu : Hid (∀ W, Fr [] w W → Rd W (some ⟨b0, o + t + 4, none⟩) ((patch a b).drop (t + 4))) := Lib.hid fun W hW => HCut.out W (t + 4) _ _ hW (by omega) rfl
  have HLu : Hid (((patch a b).drop (t + 4)).length = 8) := Lib.hid (by rw [List.length_drop]; omega)
  have HRi : Hid (∀ W, Fr [] w W → Rd W (some ⟨b0, o + 4, none⟩) (inner a b)) := Lib.hid (by
    intro W hW
    have h1 := Rd.cut hcell 4 (t - 4)
    rw [patch_inner a b (t - 4) (by omega)] at h1
    exact h1.later hW (by simp))
  have HLi : Hid ((inner a b).length = t - 4) := Lib.hid (by omega)
  have HS1 : Hid (word4 ((patch a b).drop t) = (meas a).2) := Lib.hid (patch_sum1 a b t (by omega))
  have HS2 : Hid (word4 ((patch a b).drop (t + 4)) = (meas b).2) := Lib.hid (patch_sum2 a b t (by omega))
  have HS3 : Hid (word4 ((patch a b).drop f) = Crc.next 0#32 ((patch a b).take f)) := Lib.hid (patch_sum3 a b f (by omega))
  have HD1 : Hid ((inner a b).drop 0 = Var.putV a.length ++ (Var.putV b.length ++ (hunks a b).flatMap hkB)) := Lib.hid rfl
  have HD2 : Hid ((inner a b).drop (0 + (Var.putV a.length).length + (Var.putV b.length).length) = (hunks a b).flatMap hkB) := Lib.hid (by
    refine drop_of (pre := Var.putV a.length ++ Var.putV b.length) (by unfold inner; simp [List.append_assoc]) _ (by simp))
  have HK2 : Hid (0 + (Var.putV a.length).length + (Var.putV b.length).length ≤ (inner a b).length) := Lib.hid (by unfold inner; simp)
  have HM1 : Hid ((meas a).1 = a.length) := Lib.hid rfl
  have HM2 : Hid ((meas b).1 = b.length) := Lib.hid rfl
  have HQ : Hid (∀ W p g, w.heap.size ≤ p → w.heap.size ≤ g → Pt W p g (meas a) (meas b) (dif a b) → Fr [] w W → Parsed w a b (.returned (.tuple #[.pointer (some ⟨p, 0, none⟩), .int .i64 0])) W) := Lib.hid fun W p g h1 h2 h3 h4 => ⟨p, g, rfl, h1, h2, h3, h4⟩
  have HH : Hid (∀ h ∈ hunks a b, ∀ x ∈ h.xs, x ≠ 0) := Lib.hid fun h hh => (hk_fine _ 0 (dif a b) (Nat.le_refl _) h hh).2
  have HFit : Hid (Fit (max a.length b.length) 0 (hunks a b)) := Lib.hid (fit_hk _ _ 0 (dif a b) 0 (Nat.le_refl _) (by rw [dif_length]; omega))
  have HLay : Hid (lay (List.replicate (max a.length b.length) 0) 0 (hunks a b) = dif a b) := Lib.hid (by have h1 := lay_all (dif a b); rw [dif_length] at h1; exact h1)
  obtain ⟨Z, hZ⟩ : ∃ Z, inner a b = Z := ⟨_, rfl⟩
  rw [hZ] at HRi HLi HD1 HD2 HK2
  generalize Parsed w a b = Q at *
  generalize meas a = X at *
  generalize meas b = Y at *
  generalize dif a b = D at *
  generalize hunks a b = hs' at *
  unfold maxLen at hc2
  generalize patch a b = l at *
  generalize a.length = na at *
  generalize b.length = nb at *
  clear hr hn hcell hlen h18 HCut hZ
  go_enter Try.func21, Try.ntmps21
  go_wp2_with fail
  go_quiet (fail)
  go_wp2_with fail
  clear hs hne
  go_upto_region 4 with fail
  go_cut [40] (fun s40 wx => s40 = .bool false ∧ Fr [] w wx)
  case first =>
    go_region_law (go_simp; first
      | (go_at_call 24; (with_reducible refine (Crc.sum_any w1 (some ⟨b0, o, none⟩) f c (l.take f) HLf.out (HR0.out _ HF1.out) (by omega)).mono ?_); rintro e w2 ⟨rfl, hf2⟩; have HF2 := Lib.hid (HF1.out.tr hf2); clear hf2)
      | (go_at_call 30; (with_reducible refine (sum4_any _ (some ⟨b0, o + t + 8, none⟩) 4 (d - 8) (l.drop f) HL8.out (HR8.out _ ((Fr.refl [] w).drewN _)) (by decide) (by omega)).mono ?_); rintro e w1 ⟨rfl, hf1⟩; rw [HS3.out]; have HF1 : Hid (Fr [] w w1) := Lib.hid (((Fr.refl [] w).drewN _).tr hf1); clear hf1))
    all_goals
      go_wp2_with fail
      go_meet
      exact ⟨by simp, HF2.out⟩
  case rest =>
    obtain ⟨rfl, hf2⟩ := hcut
    have HF2 := Lib.hid hf2
    clear hf2
    go_wp2_with fail
    refine (newReader_any (some ⟨b0, o + 4, none⟩) (t - 4) (c - 4) Z wc HLi.out (HRi.out _ HF2.out) (by omega)).mono ?_
    rintro e w3 ⟨r, rfl, hr3, hrs, hf3⟩
    obtain ⟨gr, hgr⟩ : ∃ gr, wc.heap.size = gr := ⟨_, rfl⟩
    rw [hgr] at hr3 hrs
    have HR3 := Lib.hid hr3
    have HF3 := Lib.hid (HF2.out.tr hf3)
    have hgw : w.heap.size ≤ gr := by rw [← hgr]; exact HF2.out.size
    have hrw : w.heap.size ≤ r := by omega
    have HZl : Hid (Z.length ≤ 1000000000) := Lib.hid (by rw [HLi.out]; omega)
    have hgrl : gr < w3.heap.size := hr3.2.lt
    clear hr3 hf3 hgr
    go_wp2_with fail
    refine (takeSizes_ok w3 r gr 0 Z (hs'.flatMap hkB) na nb HR3.out (Nat.zero_le _) HZl.out HD1.out ha hb).mono ?_
    rintro e w4 ⟨rfl, hr4, hf4⟩
    have HR4 := Lib.hid hr4
    have HF4 : Hid (Fr [] w w4) := Lib.hid (HF3.out.trans hf4 (by simp; exact hrw))
    have hs4 : w3.heap.size ≤ w4.heap.size := hf4.size
    clear hr4 hf4
    go_wp2_with fail
    have C1 : Hid (∀ W, Fr [] w W → Calls Try.prog 30 #[.slice (some ⟨b0, o + t, none⟩) 12 d] W fun e w' => e = .returned (.int .u32 (Crc.u X.2)) ∧ Fr [] W w') := Lib.hid (by
      intro W hW
      rw [← HS1.out]
      exact sum4_any W _ 12 d (l.drop t) HLs.out (HRs.out W hW) (by decide) (by omega))
    have C2 : Hid (∀ W, Fr [] w W → Calls Try.prog 30 #[.slice (some ⟨b0, o + t + 4, none⟩) 8 (d - 4)] W fun e w' => e = .returned (.int .u32 (Crc.u Y.2)) ∧ Fr [] W w') := Lib.hid (by
      intro W hW
      rw [← HS2.out]
      exact sum4_any W _ 8 (d - 4) (l.drop (t + 4)) HLu.out (HRu.out W hW) (by decide) (by omega))
    have C3 : Hid (∀ W, Calls Try.prog 13 #[.agg #[.int .u64 (na : Int), .int .u32 (Crc.u X.2)], .agg #[.int .u64 (nb : Int), .int .u32 (Crc.u Y.2)]] W fun e w' => ∃ p g, e = .returned (.pointer (some ⟨p, 0, none⟩)) ∧ W.heap.size ≤ p ∧ W.heap.size ≤ g ∧ Pt w' p g X Y (List.replicate (max na nb) 0) ∧ Fr [] W w') := Lib.hid (by
      intro W
      have h1 := newPatch_any W X Y (by rw [HM1.out]; exact ha) (by rw [HM2.out]; exact hb)
      unfold mV at h1
      rw [HM1.out, HM2.out] at h1
      exact h1)
    have HFd : Hid (Fr [] w w4.drew) := Lib.hid HF4.out.drew
    have HRd := Lib.hid (HR4.out.fr ((Fr.refl [] w4).drew) (by simp) (by simp))
    have hsd : w3.heap.size ≤ w4.drew.heap.size := hs4
    go_upto_region 10 with fail
    go_cut [10] (fun s10 wx => ∃ p g, s10 = .pointer (some ⟨p, 0, none⟩) ∧ w3.heap.size ≤ p ∧ w3.heap.size ≤ g ∧ Pt wx p g X Y (List.replicate (max na nb) 0) ∧ Rdr wx r gr Z (0 + (Var.putV na).length + (Var.putV nb).length) ∧ Fr [] w wx)
    case first =>
      go_region_law (go_simp; first
        | (go_at_call 13; (with_reducible refine (C3.out w6).mono ?_); rintro e w7 ⟨p, g, rfl, hp7, hg7, hP7, hf7⟩; have HP7 := Lib.hid hP7; have HR7 := Lib.hid (HR6.out.fr hf7 (by simp) (by simp)); have HF7 := Lib.hid (HF6.out.tr hf7); clear hP7 hf7)
        | (go_at_call 30; (with_reducible refine (C2.out w5 HF5.out).mono ?_); rintro e w6 ⟨rfl, hf6⟩; have HF6 := Lib.hid (HF5.out.tr hf6); have HR6 := Lib.hid (HR5.out.fr hf6 (by simp) (by simp)); have hs6 : w3.heap.size ≤ w6.heap.size := Nat.le_trans hs5 hf6.size; clear hf6)
        | (go_at_call 30; (with_reducible refine (C1.out w4.drew HFd.out).mono ?_); rintro e w5 ⟨rfl, hf5⟩; have HF5 := Lib.hid (HFd.out.tr hf5); have HR5 := Lib.hid (HRd.out.fr hf5 (by simp) (by simp)); have hs5 : w3.heap.size ≤ w5.heap.size := Nat.le_trans hsd hf5.size; clear hf5))
      all_goals
        go_wp2_with fail
        go_meet
        exact ⟨p, g, rfl, by omega, by omega, HP7.out, HR7.out, HF7.out⟩
    case rest =>
      obtain ⟨p, g, rfl, hp3, hg3, hP, hR, hF⟩ := hcut
      have HP := Lib.hid hP
      have HR := Lib.hid hR
      have HF := Lib.hid hF
      have hw3s := HF3.out.size
      clear hP hR hF HR4 HRd HFd
      go_wp2_with fail
      refine (takeHunks_ok wc p g r gr X Y Z (0 + (Var.putV na).length + (Var.putV nb).length) (max na nb) (List.replicate (max na nb) 0) hs' HP.out HR.out HK2.out (by omega) HD2.out HH.out HFit.out (by simp) (by omega) HZl.out).mono ?_
      rintro e w8 ⟨rfl, hP8, hf8⟩
      rw [HLay.out] at hP8
      have HX := Lib.hid (HQ.out w8 p g (by omega) (by omega) hP8 (HF.out.trans hf8 (by simp; omega)))
      clear hP8 hf8
      go_wp2
      exact HX.out

end Ups
end Go.Proofs.Ytpbjbmmnncohfaa
