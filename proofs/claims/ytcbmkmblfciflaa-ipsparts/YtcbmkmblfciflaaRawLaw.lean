/-
  picklocklaw04.IpsRaw returns true for every input: what any bytes behind PATCH make is what the document says. No condition.
-/
import Derived.Test.YtcbmkmblfciflaaParsesLaw
import Derived.Test.YtcbmkmblfciflaaIpsRefApply
namespace Go.Proofs.Ytcbmkmblfciflaa
open Go.RowKit
namespace Ips

theorem reach_max (m : Nat) (rs : List Rec) : reach m rs = max m (reach 0 rs) := by
  induction rs generalizing m with
  | nil => simp [reach]
  | cons r rs ih =>
    show reach (max m (r.pos + span r)) rs = max m (reach (max 0 (r.pos + span r)) rs)
    rw [ih (max m _), ih (max 0 _)]
    omega
theorem applied_err (l x : List UInt8) (h : (parse l).1 ≠ 0) : applied l x = ((parse l).1, []) := by simp [applied, h]
theorem applied_ok (l x : List UInt8) (h : (parse l).1 = 0) (hr : reach x.length (parse l).2.1 ≤ 16777216) : applied l x = (0, cutTo (parse l).2.2 ((parse l).2.1.foldl layD x)) := by
  rw [layD_all _ _ (fun r hr => (parse_fits l r hr).1)]
  simp [applied, h, Nat.not_lt.2 hr]

set_option maxRecDepth 100000 in
set_option maxHeartbeats 4000000 in
theorem raw_walk (a0 : Option Addr) (cap0 : Nat) (l : List UInt8) (a1 : Option Addr) (cap1 : Nat) (k : List UInt8) (w : World) (hr : Rd w a0 l) (hc : a0 = none → cap0 = 0) (hlc : l.length ≤ cap0) (_hcm : cap0 ≤ maxLen) (hr1 : Rd w a1 k) (hc1 : a1 = none → cap1 = 0) (hlc1 : k.length ≤ cap1) (_hcm1 : cap1 ≤ maxLen) :
    Calls Try.prog 5 #[.slice a0 l.length cap0, .slice a1 k.length cap1] w fun e w' => e = .returned (.bool true) ∧ Below w.heap.size w w' := by
  obtain ⟨i0, hi, hz0, hz1, hz2⟩ := info_parts info5
  have HR := Lib.hid hr
  have HC := Lib.hid hc
  have HR1 := Lib.hid hr1
  have HC1 := Lib.hid hc1
  have HL := Lib.hid (take_len l 2000 (by omega))
  have HL1 := Lib.hid (take_len k 500 (by omega))
  have hcnt : (min (l.length : Int) 2000).toNat ≤ 2000 := by omega
  have hcnt1 : (min (k.length : Int) 500).toNat ≤ 500 := by omega
  unfold maxLen at _hcm _hcm1
  clear hr hc hr1 hc1
  go_enter Try.func5, Try.ntmps5
  go_wp2_with (first
    | (go_at_call 8; refine (shown_any _).mono ?_; rintro e w1 ⟨rfl, hf1⟩; have HF1 := Lib.hid hf1; have hs1 := hf1.size; clear hf1)
    | (at_builtin; refine wpList_app _ rfl (.tmp 12) (.tmp 17) 22 rfl w.heap.size i0 Try.underlying22 hi hz0 hz1 hz2 (.slice (some ⟨w1.heap.size, 0, none⟩) 0 0) [] rfl (Own.empty w1 _ hs1) a1 _ cap1 (k.take (min (k.length : Int) 500).toNat) rfl HL1.out (rd_take (HR1.out.later (HF1.out.alloc _) (by simp)) _) HC1.out (by simp; omega) (by simp; omega) ?_))
  intro A1 c1 w2 ho2 hf2 hlies
  have HF2 : Hid (Fr [] w w2) := (HF1.out.alloc _).trans hf2 (by simp [Value.ownBlock]; omega)
  have HM1 : Hid ((k.take (min (k.length : Int) 500).toNat).length = (min (k.length : Int) 500).toNat) := HL1.out
  have HX : Hid (Rd w2 A1 (k.take (min (k.length : Int) 500).toNat)) := Lib.hid ho2.rd
  have HXn : Hid (A1 = none → c1 = 0) := Lib.hid (by rcases ho2.form0 with ⟨_, _, h⟩ | ⟨g, h⟩; exact fun _ => h; exact fun e => by rw [h] at e; cases e)
  have hs2 := HF2.out.size
  clear ho2 hf2 HR1 HC1 HL1 hlc1 hs1 hlies
  generalize (min (k.length : Int) 500).toNat = n1 at *
  generalize k.take n1 = x at *
  have kc := conv_const w2 w2.heap.size rfl (bv patch).toArray 5 5
  have HAp : Hid (Ap (w2.alloc (.cells (bv patch).toArray 5 (5, 6))) w.heap.size (.slice (some ⟨w2.heap.size, 0, none⟩) 5 5) patch) := Lib.hid (.inr ⟨w2.heap.size, rfl, rd_const w2 _ rfl patch 5 _, hs2, by simp⟩)
  simp [bv, patch] at kc
  have HR2' : Hid (Rd (w2.alloc (.cells (bv patch).toArray 5 (5, 6))) a0 (l.take (min (l.length : Int) 2000).toNat)) := Lib.hid (rd_take (HR.out.later (HF2.out.alloc _) (by simp)) _)
  go_wp2_with (at_builtin; refine wpList_ap _ rfl (.tmp 20) (.tmp 25) 22 rfl w.heap.size i0 Try.underlying22 hi hz0 hz1 hz2 _ patch rfl HAp.out a0 (min (l.length : Int) 2000).toNat cap0 _ rfl HL.out HR2'.out HC.out (5 + (min (l.length : Int) 2000).toNat) rfl (by omega) (by simp; omega) ?_)
  intro A9 c9 w9 ho9 hf9
  clear kc
  have hl9 : (patch ++ l.take (min (l.length : Int) 2000).toNat).length = 5 + (min (l.length : Int) 2000).toNat := by rw [List.length_append, HL.out]; rfl
  have HF9 : Hid (Fr [] w2 w9) := Lib.hid (((Fr.refl [] w2).alloc _).trans hf9 (by simp [Value.ownBlock]))
  obtain ⟨A', c', hv, hr9, _, hc9, _⟩ := ho9.slice (by rw [hl9]; unfold maxLen; omega)
  rw [hl9] at hv hc9
  cases hv
  have HRp := Lib.hid hr9
  have HMp := Lib.hid hl9
  have hcap := hc9
  clear hr9 hl9 hc9 ho9 hf9 HR2' HAp HR HC HL hlc
  generalize 5 + (min (l.length : Int) 2000).toNat = n9 at *
  generalize patch ++ l.take (min (l.length : Int) 2000).toNat = m9 at *
  go_wp2_with fail
  refine (refparse_any w9 A9 n9 c9 m9 HMp.out HRp.out hcap).mono ?_
  rintro e w3 ⟨A3, c3, rfl, hr3, hf3⟩
  have HF3 := Lib.hid hf3
  have HR3 := Lib.hid hr3
  clear hr3 hf3
  have HCA : Hid (∀ w', Fr [] w3 w' → Calls Try.prog 13 #[.slice A9 n9 c9, .slice A1 n1 c1] w' (Applied w' (applied m9 x))) := Lib.hid fun w' hf => apply_any w' A9 A1 n9 c9 n1 c1 m9 x HMp.out (HRp.out.later (HF3.out.tr hf) (by simp)) HM1.out (by omega) (HX.out.later ((HF9.out.tr HF3.out).tr hf) (by simp))
  have HE := Lib.hid (applied_err m9 x)
  have HK := Lib.hid (applied_ok m9 x)
  have HW := Lib.hid (parse_fits m9)
  have hfew := parse_few m9
  have hcut := (parse_cut m9).2
  generalize applied m9 x = P at *
  generalize parse m9 = Z at *
  obtain ⟨e, rs, cut⟩ := Z
  simp only at HR3 HW hfew hcut HE HK
  generalize hk : rs.length = q at *
  have HQ := Lib.hid hk
  clear hk
  by_cases he : e = 0
  · subst he
    go_wp2_with fail
    refine (refend_any w3 A3 q c3 rs HQ.out HR3.out HW.out hfew).mono ?_
    rintro e1 w4 ⟨rfl, hf4⟩
    have HF4 := Lib.hid hf4
    clear hf4
    have HRM := Lib.hid (reach_max x.length rs)
    generalize reach 0 rs = R at *
    by_cases hR : 20000 < R
    · have hR' : 20000 < (R : Int) := by omega
      go_wp2
      go_ret
      exact ⟨rfl, (((HF2.out.tr HF9.out).tr HF3.out).tr HF4.out).below (by simp) (Nat.le_refl _)⟩
    · have hR' : ¬ 20000 < (R : Int) := by omega
      have HP := Lib.hid (HK.out trivial (by rw [HRM.out, HM1.out]; omega))
      go_wp2_with fail
      refine (HCA.out w4 HF4.out).mono ?_
      rw [HP.out]
      rintro e1 w5 ⟨A5, c5, rfl, hr5, _, _, _, hf5⟩
      have HR5 := Lib.hid hr5
      have HF5 := Lib.hid hf5
      clear hr5 hf5
      have HCR := Lib.hid (refapply_any w5 A3 A1 q c3 n1 c1 cut rs x HQ.out (HR3.out.later (HF4.out.tr HF5.out) (by simp)) HW.out hfew HM1.out (by omega) (HX.out.later ((((HF9.out.tr HF3.out).tr HF4.out).tr HF5.out)) (by simp)) HXn.out hcut)
      generalize cutTo cut (rs.foldl layD x) = Y at *
      simp only at HR5
      go_wp2_with fail
      refine HCR.out.mono ?_
      rintro e1 w6 ⟨A6, c6, rfl, hr6, hf6⟩
      have HR6 := Lib.hid hr6
      have HF6 := Lib.hid hf6
      clear hr6 hf6
      go_wp2_with fail
      refine (same_eq w6 A5 A6 _ _ c5 c6 Y rfl rfl (HR5.out.later HF6.out (by simp)) HR6.out).mono ?_
      rintro e1 w7 ⟨rfl, rfl⟩
      go_wp2
      go_ret
      exact ⟨rfl, (((((HF2.out.tr HF9.out).tr HF3.out).tr HF4.out).tr HF5.out).tr HF6.out).below (by simp) (Nat.le_refl _)⟩
  · have b1 : (e == 0) = false := by simpa using he
    have b2 : (e != 0) = true := by simpa using he
    have HP := Lib.hid (HE.out he)
    go_wp2_with fail
    refine (HCA.out w3 (Fr.refl _ _)).mono ?_
    rw [HP.out]
    rintro e1 w5 ⟨A5, c5, rfl, _, _, _, _, hf5⟩
    have HF5 := Lib.hid hf5
    clear hf5
    go_wp2
    go_ret
    exact ⟨rfl, (((HF2.out.tr HF9.out).tr HF3.out).tr HF5.out).below (by simp) (Nat.le_refl _)⟩

end Ips
end Go.Proofs.Ytcbmkmblfciflaa
