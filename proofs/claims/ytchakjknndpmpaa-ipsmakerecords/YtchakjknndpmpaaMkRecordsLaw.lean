/-
  picklocklaw05.IpsmakeRecords returns true for every input: records rise, and do not reach behind the end; it cuts just if the output is shorter. No condition.
-/
import Derived.Test.YtchakjknndpmpaaMkRef
namespace Go.Proofs.Ytchakjknndpmpaa
open Go.RowKit
namespace Ips

set_option maxRecDepth 100000 in
set_option maxHeartbeats 4000000 in
theorem mrecords_walk (a0 : Option Addr) (cap0 : Nat) (l : List UInt8) (a1 : Option Addr) (cap1 : Nat) (k : List UInt8) (w : World) (hr : Rd w a0 l) (hc : a0 = none → cap0 = 0) (hlc : l.length ≤ cap0) (_hcm : cap0 ≤ maxLen) (hr1 : Rd w a1 k) (hc1 : a1 = none → cap1 = 0) (hlc1 : k.length ≤ cap1) (_hcm1 : cap1 ≤ maxLen) :
    Calls Try.prog 4 #[.slice a0 l.length cap0, .slice a1 k.length cap1] w fun e w' => e = .returned (.bool true) ∧ Below w.heap.size w w' := by
  obtain ⟨i0, hi, hz0, hz1, hz2⟩ := info_parts info5
  have HR := Lib.hid hr
  have HC := Lib.hid hc
  have HR1 := Lib.hid hr1
  have HC1 := Lib.hid hc1
  have HL := Lib.hid (take_len l 3000 (by omega))
  have HL1 := Lib.hid (take_len k 3000 (by omega))
  have hcnt : (min (l.length : Int) 3000).toNat ≤ 3000 := by omega
  have hcnt1 : (min (k.length : Int) 3000).toNat ≤ 3000 := by omega
  unfold maxLen at _hcm _hcm1
  clear hr hc hr1 hc1
  go_enter Try.func4, Try.ntmps4
  go_wp2_with (first
    | (go_at_call 8; refine (shown5 _).mono ?_; rintro e w1 ⟨rfl, hf1⟩; have HF1 := Lib.hid hf1; have hs1 := hf1.size; clear hf1)
    | (at_builtin; refine wpList_app _ rfl (.tmp 15) (.tmp 20) 22 rfl w.heap.size i0 Try.underlying22 hi hz0 hz1 hz2 (.slice (some ⟨w1.heap.size, 0, none⟩) 0 0) [] rfl (Own.empty w1 _ hs1) a0 _ cap0 (l.take (min (l.length : Int) 3000).toNat) rfl HL.out (rd_take (HR.out.later (HF1.out.alloc _) (by simp)) _) HC.out (by simp; omega) (by simp; omega) ?_))
  intro A1 c1 w2 ho2 hf2 hlies
  have HF2 : Hid (Fr [] w w2) := Lib.hid ((HF1.out.alloc _).trans hf2 (by simp [Value.ownBlock]; omega))
  have HM1 : Hid ((l.take (min (l.length : Int) 3000).toNat).length = (min (l.length : Int) 3000).toNat) := HL.out
  have HX : Hid (Rd w2 A1 (l.take (min (l.length : Int) 3000).toNat)) := Lib.hid ho2.rd
  have hs2 := HF2.out.size
  clear ho2 hf2 HR HC HL hlc hs1 hlies
  generalize (min (l.length : Int) 3000).toNat = n1 at *
  generalize l.take n1 = x at *
  go_wp2_with (at_builtin; refine wpList_app _ rfl (.tmp 22) (.tmp 27) 22 rfl w.heap.size i0 Try.underlying22 hi hz0 hz1 hz2 (.slice (some ⟨w2.heap.size, 0, none⟩) 0 0) [] rfl (Own.empty w2 _ hs2) a1 _ cap1 (k.take (min (k.length : Int) 3000).toNat) rfl HL1.out (rd_take (HR1.out.later (HF2.out.alloc _) (by simp)) _) HC1.out (by simp; omega) (by simp; omega) ?_)
  intro A2 c2 w3 ho3 hf3 hlies
  have HF3' : Hid (Fr [] w2 w3) := Lib.hid (((Fr.refl [] w2).alloc _).trans hf3 (by simp [Value.ownBlock]))
  have HF3 : Hid (Fr [] w w3) := Lib.hid (HF2.out.tr HF3'.out)
  have HM2 : Hid ((k.take (min (k.length : Int) 3000).toNat).length = (min (k.length : Int) 3000).toNat) := HL1.out
  have HY : Hid (Rd w3 A2 (k.take (min (k.length : Int) 3000).toNat)) := Lib.hid ho3.rd
  have HX3 := Lib.hid (HX.out.later HF3'.out (by simp))
  obtain ⟨hnc1, hnc2⟩ := ho3.caps
  clear ho3 hf3 HR1 HC1 HL1 hlc1 hs2 hlies HX
  generalize (min (k.length : Int) 3000).toNat = n2 at *
  generalize k.take n2 = y at *
  go_wp2_with fail
  refine (create5 w3 A1 A2 n1 c1 n2 c2 x y HM1.out HM2.out (by omega) (by omega) HX3.out HY.out hnc1 (by unfold maxLen; omega)).mono ?_
  rintro e w4 ⟨rs, g, hM, rfl, ho4, hf4⟩
  have HMk := Lib.hid hM
  have HR4 := Lib.hid ho4.rd
  have HF4 := Lib.hid hf4
  have hL := made_length x y rs hM
  have hD := D_le x y y.length
  have hCt := made_count x y rs
  have hRise := hM.rise
  rw [HM2.out] at hL hD hRise
  obtain ⟨L, hLe⟩ : ∃ L, (made x y rs).length = L := ⟨_, rfl⟩
  have HLe := Lib.hid hLe
  rw [hLe] at hL hCt ⊢
  have HRise := Lib.hid hRise
  have hL2 : L ≤ 20000 := by omega
  clear hM ho4 hf4 hLe hL hD HX3 HY hRise
  go_wp2_with fail
  refine (refparseM w4 (some ⟨g, 0, none⟩) L L x y rs HMk.out HLe.out HR4.out (Nat.le_refl _) (by omega) (by rw [HM1.out]; omega)).mono ?_
  rintro e w5 ⟨A5, c5, rfl, hr5, hf5⟩
  simp only at hr5 ⊢
  have HR5 := Lib.hid hr5
  have HF5 := Lib.hid hf5
  obtain ⟨q, hq⟩ : ∃ q, rs.length = q := ⟨_, rfl⟩
  have HQ := Lib.hid hq
  obtain ⟨cut, hcut⟩ : ∃ cut, cutOf x y = cut := ⟨_, rfl⟩
  have HCut := Lib.hid hcut
  rw [hq] at hCt ⊢
  rw [hcut]
  clear hr5 hf5 hq hcut
  have HFit := Lib.hid (made_fits HMk.out)
  have HCC : Hid (cut = if n2 < n1 then (n2 : Int) else -1) := Lib.hid (by rw [← HCut.out]; unfold cutOf; rw [HM1.out, HM2.out])
  have HFw : Hid (Fr [] w w5) := Lib.hid ((HF3.out.tr HF4.out).tr HF5.out)
  clear HMk HCut HR4 HLe HM1 HM2
  go_wp2_with fail
  go_loopw [11, 12] (fun s11 s12 wr => ∃ j e : Nat, j ≤ q ∧ s11 = .int .i64 (e : Int) ∧ s12 = .int .i64 (j : Int) ∧ Rise e (rs.drop j) n2 ∧ Fr [] w5 wr) (fun _ s12 _ => q - (intOf s12).toNat)
  case atStart => exact ⟨0, 0, Nat.zero_le _, rfl, rfl, HRise.out, Fr.refl _ _⟩
  case round =>
    obtain ⟨j, e, hj, rfl, rfl, hR, hf⟩ := hrel
    have HF := Lib.hid hf
    have hle := hR.le
    by_cases hlt : j < q
    · have hlt' : (j : Int) < q := by omega
      obtain ⟨b, o, r, D, d, rfl, hrj, q0, q1, q2, _⟩ := (HR5.out.later hf (by simp)).at j (by rw [HQ.out]; exact hlt)
      obtain ⟨_, f1, f2, f3⟩ := HFit.out r (List.mem_of_getElem? hrj)
      obtain ⟨hjl, hre⟩ := List.getElem?_eq_some_iff.1 hrj
      rw [List.drop_eq_getElem_cons hjl, hre] at hR
      obtain ⟨hR1, hR2⟩ := hR
      have HR2 := Lib.hid hR2
      have hR1' : ¬ (r.pos : Int) < e := by omega
      have hR1'' : decide ((r.pos : Int) < e) = false := by simp; omega
      clear hrj hjl hre hR2 hf
      go_wp2_with fail
      go_quiet (fail)
      go_wp2
      go_roundw
      case rel => exact ⟨j + 1, r.pos + span r, by omega, by unfold span; congr 1; omega, by go_num, HR2.out, HF.out.drewN _⟩
      case measure => simp [intOf]; omega
    · have hlt' : ¬ (j : Int) < q := by omega
      obtain rfl : j = q := by omega
      have hle' : (e : Int) ≤ n2 := by omega
      clear hR hf
      by_cases hmn : n2 < n1
      · have hmn' : (n2 : Int) < n1 := by omega
        have hc : cut = (n2 : Int) := by rw [HCC.out, if_pos hmn]
        subst hc
        go_wp2
        go_ret
        exact ⟨rfl, (HFw.out.tr HF.out).below (by simp) (Nat.le_refl _)⟩
      · have hmn' : ¬ (n2 : Int) < n1 := by omega
        have hc : cut = -1 := by rw [HCC.out, if_neg hmn]
        subst hc
        go_wp2
        go_ret
        exact ⟨rfl, (HFw.out.tr HF.out).below (by simp) (Nat.le_refl _)⟩

end Ips
end Go.Proofs.Ytchakjknndpmpaa
