/-
  picklocklaw08.BpsmakeApplies returns true for every input: the patch makes the one of the other, by the document's own way to apply it, and by Apply; it tells both sizes, sums, and meta. No condition.
-/
import Derived.Test.YtokfcknfkhlmfaaM3
import Derived.Test.YtokfcknfkhlmfaaBpsRefMake
import Derived.Test.YtokfcknfkhlmfaaOctSame
namespace Go.Proofs.Ytokfcknfkhlmfaa
open Go.RowKit
namespace Bm
open Acts (ActRd)

set_option maxRecDepth 100000 in
set_option maxHeartbeats 4000000 in
theorem applies_walk (a0 : Option Addr) (cap0 : Nat) (l : List UInt8) (a1 : Option Addr) (cap1 : Nat) (k : List UInt8) (a2 : Option Addr) (cap2 : Nat) (j : List UInt8) (w : World) (hr : Rd w a0 l) (hc : a0 = none → cap0 = 0) (hlc : l.length ≤ cap0) (_hcm : cap0 ≤ maxLen) (hr1 : Rd w a1 k) (hc1 : a1 = none → cap1 = 0) (hlc1 : k.length ≤ cap1) (_hcm1 : cap1 ≤ maxLen) (hr2 : Rd w a2 j) (hc2 : a2 = none → cap2 = 0) (hlc2 : j.length ≤ cap2) (_hcm2 : cap2 ≤ maxLen) :
    Calls Try.prog 3 #[.slice a0 l.length cap0, .slice a1 k.length cap1, .slice a2 j.length cap2] w fun e w' => e = .returned (.bool true) ∧ Below w.heap.size w w' := by
  obtain ⟨i0, hi, hz0, hz1, hz2⟩ := info_parts info5
  have HR := Lib.hid hr
  have HC := Lib.hid hc
  have HR1 := Lib.hid hr1
  have HC1 := Lib.hid hc1
  have HR2 := Lib.hid hr2
  have HC2 := Lib.hid hc2
  have HL := Lib.hid (take_len l 2000 (by omega))
  have HL1 := Lib.hid (take_len k 2000 (by omega))
  have HL2 := Lib.hid (take_len j 100 (by omega))
  have hcnt : (min (l.length : Int) 2000).toNat ≤ 2000 := by omega
  have hcnt1 : (min (k.length : Int) 2000).toNat ≤ 2000 := by omega
  have hcnt2 : (min (j.length : Int) 100).toNat ≤ 100 := by omega
  unfold maxLen at _hcm _hcm1 _hcm2
  clear hr hc hr1 hc1 hr2 hc2
  go_enter Try.func3, Try.ntmps3
  go_wp2_with (first
    | (go_at_call 7; refine (shown8 _).mono ?_; rintro e w1 ⟨rfl, hf1⟩; have HF1 := Lib.hid hf1; have hs1 := hf1.size; clear hf1)
    | (at_builtin; refine wpList_app _ rfl (.tmp 17) (.tmp 22) 22 rfl w.heap.size i0 Try.underlying22 hi hz0 hz1 hz2 (.slice (some ⟨w1.heap.size, 0, none⟩) 0 0) [] rfl (Own.empty w1 _ hs1) a0 _ cap0 (l.take (min (l.length : Int) 2000).toNat) rfl HL.out (rd_take (HR.out.later (HF1.out.alloc _) (by simp)) _) HC.out (by simp; omega) (by simp; omega) ?_))
  intro A1 c1 w2 ho2 hf2 hlies
  have HF2 : Hid (Fr [] w w2) := Lib.hid ((HF1.out.alloc _).trans hf2 (by simp [Value.ownBlock]; omega))
  have HM1 : Hid ((l.take (min (l.length : Int) 2000).toNat).length = (min (l.length : Int) 2000).toNat) := HL.out
  have HX : Hid (Rd w2 A1 (l.take (min (l.length : Int) 2000).toNat)) := Lib.hid ho2.rd
  obtain ⟨hna1, hna2⟩ := ho2.caps
  have HXn : Hid (A1 = none → c1 = 0) := Lib.hid (by rcases ho2.form0 with ⟨_, _, h⟩ | ⟨g, h⟩; exact fun _ => h; exact fun e => by rw [h] at e; cases e)
  have hs2 := HF2.out.size
  clear ho2 hf2 HR HC HL hlc hs1 hlies
  generalize (min (l.length : Int) 2000).toNat = n1 at *
  generalize l.take n1 = x at *
  go_wp2_with (at_builtin; refine wpList_app _ rfl (.tmp 24) (.tmp 29) 22 rfl w.heap.size i0 Try.underlying22 hi hz0 hz1 hz2 (.slice (some ⟨w2.heap.size, 0, none⟩) 0 0) [] rfl (Own.empty w2 _ hs2) a1 _ cap1 (k.take (min (k.length : Int) 2000).toNat) rfl HL1.out (rd_take (HR1.out.later (HF2.out.alloc _) (by simp)) _) HC1.out (by simp; omega) (by simp; omega) ?_)
  intro A2 c2 w3 ho3 hf3 hlies
  have HF3' : Hid (Fr [] w2 w3) := Lib.hid (((Fr.refl [] w2).alloc _).trans hf3 (by simp [Value.ownBlock]))
  have HF3 : Hid (Fr [] w w3) := Lib.hid (HF2.out.tr HF3'.out)
  have HM2 : Hid ((k.take (min (k.length : Int) 2000).toNat).length = (min (k.length : Int) 2000).toNat) := HL1.out
  have HY : Hid (Rd w3 A2 (k.take (min (k.length : Int) 2000).toNat)) := Lib.hid ho3.rd
  have HX3 := Lib.hid (HX.out.later HF3'.out (by simp))
  obtain ⟨hnb1, hnb2⟩ := ho3.caps
  have hs3 := HF3.out.size
  clear ho3 hf3 HR1 HC1 HL1 hlc1 hs2 hlies HX HF3' HF2
  generalize (min (k.length : Int) 2000).toNat = n2 at *
  generalize k.take n2 = y at *
  go_wp2_with (at_builtin; refine wpList_app _ rfl (.tmp 31) (.tmp 36) 22 rfl w.heap.size i0 Try.underlying22 hi hz0 hz1 hz2 (.slice (some ⟨w3.heap.size, 0, none⟩) 0 0) [] rfl (Own.empty w3 _ hs3) a2 _ cap2 (j.take (min (j.length : Int) 100).toNat) rfl HL2.out (rd_take (HR2.out.later (HF3.out.alloc _) (by simp)) _) HC2.out (by simp; omega) (by simp; omega) ?_)
  intro A3 c3 w4 ho4 hf4 hlies
  have HF4' : Hid (Fr [] w3 w4) := Lib.hid (((Fr.refl [] w3).alloc _).trans hf4 (by simp [Value.ownBlock]))
  have HF4 : Hid (Fr [] w w4) := Lib.hid (HF3.out.tr HF4'.out)
  have HM3 : Hid ((j.take (min (j.length : Int) 100).toNat).length = (min (j.length : Int) 100).toNat) := HL2.out
  have HV : Hid (Rd w4 A3 (j.take (min (j.length : Int) 100).toNat)) := Lib.hid ho4.rd
  have HVn : Hid (A3 = none → c3 = 0) := Lib.hid (by rcases ho4.form0 with ⟨_, _, h⟩ | ⟨g, h⟩; exact fun _ => h; exact fun e => by rw [h] at e; cases e)
  have HX4 := Lib.hid (HX3.out.later HF4'.out (by simp))
  have HY4 := Lib.hid (HY.out.later HF4'.out (by simp))
  clear ho4 hf4 HR2 HC2 HL2 hlc2 hs3 hlies HX3 HY HF4' HF3
  generalize (min (j.length : Int) 100).toNat = n3 at *
  generalize j.take n3 = v at *
  go_wp2_with fail
  refine (create_any w4 A1 A2 A3 c1 c2 c3 n1 n2 n3 x y v HM1.out HM2.out HM3.out hna1 hnb1 (by omega) (by omega) (by omega) HX4.out HY4.out HV.out HVn.out).mono ?_
  rintro e w5 ⟨σ, R, n, hR, hu, hn, rfl, hRl, hb5, hf5⟩
  have HRu := Lib.hid hR
  have Hu := Lib.hid hu
  have Hn := Lib.hid hn
  have HP5 := Lib.hid (rd_blk hb5)
  have HF5 := Lib.hid (HF4.out.tr hf5)
  have hlen := pat_len x y v σ hR hu (by rw [HM1.out]; omega) (by rw [HM2.out]; omega) (by rw [HM3.out]; omega)
  rw [hn, HM2.out, HM3.out] at hlen
  have HFin := Lib.hid (done_fin hR hu (by rw [HM1.out]; omega) (by rw [HM2.out]; omega))
  have HFine := Lib.hid (pat_fine x y v σ hR hu (by rw [HM1.out]; omega) (by rw [HM2.out]; omega) (by rw [HM3.out]; omega))
  have HX5 := Lib.hid (HX4.out.later hf5 (by simp))
  have HY5 := Lib.hid (HY4.out.later hf5 (by simp))
  have HV5 := Lib.hid (HV.out.later hf5 (by simp))
  clear hR hu hn hb5 hf5 HX4 HY4 HV HVn HF4
  go_wp2_with fail
  refine (rparse_made w5 R n n (patO x y v σ) HFine.out Hn.out HP5.out (Nat.le_refl _)).mono ?_
  rintro e w6 ⟨M, cm, AL, cL, rfl, hmt, hra, hlc, hf6⟩
  have HMt : Hid (Rd w6 M v) := Lib.hid hmt
  have HP6 := Lib.hid (HP5.out.later hf6 (by simp))
  have HX6 := Lib.hid (HX5.out.later hf6 (by simp))
  have HY6 := Lib.hid (HY5.out.later hf6 (by simp))
  have HV6 := Lib.hid (HV5.out.later hf6 (by simp))
  have HRA := Lib.hid hra
  have HF6 := Lib.hid (HF5.out.tr hf6)
  obtain ⟨LL, hLL⟩ : ∃ LL, σ.L ++ leftL y σ.told y.length = LL := ⟨_, rfl⟩
  have HMk := Lib.hid (pat_make HRu.out Hu.out (by rw [HM1.out]; omega) (by rw [HM2.out]; omega))
  rw [hLL] at HFin HMk
  have e1 : (patO x y v σ).L = LL := hLL
  rw [e1] at HRA hlc ⊢
  obtain ⟨nl, hnl⟩ : ∃ nl, LL.length = nl := ⟨_, rfl⟩
  rw [hnl] at hlc ⊢
  have Hnl := Lib.hid hnl
  rw [show (patO x y v σ).i = n1 from HM1.out, show (patO x y v σ).o = n2 from HM2.out, show (patO x y v σ).mt.length = n3 from HM3.out]
  obtain ⟨q3, hq3⟩ : ∃ q3, Crc.u (patO x y v σ).s1 = q3 := ⟨_, rfl⟩
  obtain ⟨q4, hq4⟩ : ∃ q4, Crc.u (patO x y v σ).s2 = q4 := ⟨_, rfl⟩
  rw [hq3, hq4]
  have Hq3 : Hid (Crc.u (Crc.next 0#32 x) = q3) := Lib.hid hq3
  have Hq4 : Hid (Crc.u (Crc.next 0#32 y) = q4) := Lib.hid hq4
  clear hq3 hq4 hmt hra hf6 e1 hLL hnl HP5 HF5
  obtain ⟨pb, hpb⟩ : ∃ pb, w6.heap.size = pb := ⟨_, rfl⟩
  go_wp2_with fail
  have hal : Fr [] w6 (w6.alloc (.cells #[.int .i64 (n1 : Int), .int .i64 (n2 : Int), .int .u32 q3, .int .u32 q4, .slice M n3 cm, .slice AL nl cL] 30)) := (Fr.refl [] w6).alloc _
  have HB7 : Hid (Blk (w6.alloc (.cells #[.int .i64 (n1 : Int), .int .i64 (n2 : Int), .int .u32 q3, .int .u32 q4, .slice M n3 cm, .slice AL nl cL] 30)) pb 30 #[.int .i64 (n1 : Int), .int .i64 (n2 : Int), .int .u32 q3, .int .u32 q4, .slice M n3 cm, .slice AL nl cL]) := Lib.hid (by
    have h1 := Blk.fresh w6 30 #[.int .i64 (n1 : Int), .int .i64 (n2 : Int), .int .u32 q3, .int .u32 q4, .slice M n3 cm, .slice AL nl cL]
    rw [hpb] at h1
    exact h1)
  have HRA7 := Lib.hid (HRA.out.later hal (by simp))
  have HF7 := Lib.hid (HF6.out.tr hal)
  have HX7 := Lib.hid (HX6.out.later hal (by simp))
  have HY7 := Lib.hid (HY6.out.later hal (by simp))
  have HV7 := Lib.hid (HV6.out.later hal (by simp))
  have HMt7 := Lib.hid (HMt.out.later hal (by simp))
  have HP7 := Lib.hid (HP6.out.later hal (by simp))
  clear hal HRA HF6 HX6 HY6 HV6 HMt HP6
  generalize w6.alloc (.cells #[.int .i64 (n1 : Int), .int .i64 (n2 : Int), .int .u32 q3, .int .u32 q4, .slice M n3 cm, .slice AL nl cL] 30) = w7 at *
  refine (apply_made w7 R A1 n n1 c1 x y v σ HRu.out Hu.out (by rw [HM1.out]; omega) (by rw [HM2.out]; omega) (by rw [HM3.out]; omega) Hn.out HP7.out HM1.out HX7.out HXn.out hna1 (by unfold maxLen; omega)).mono ?_
  rintro e w8 ⟨A8, c8, rfl, ho8, hf8⟩
  simp only at ho8 ⊢
  rw [HM2.out] at ho8 ⊢
  have HO8 := Lib.hid ho8
  have HB8 := Lib.hid (HB7.out.fr hf8 (by simp))
  have HRA8 := Lib.hid (HRA7.out.later hf8 (by simp))
  have HF8 := Lib.hid (HF7.out.tr hf8)
  have HX8 := Lib.hid (HX7.out.later hf8 (by simp))
  have HY8 := Lib.hid (HY7.out.later hf8 (by simp))
  have HV8 := Lib.hid (HV7.out.later hf8 (by simp))
  have HMt8 := Lib.hid (HMt7.out.later hf8 (by simp))
  clear ho8 hf8 HB7 HRA7 HF7 HX7 HY7 HV7 HMt7 HP7
  obtain ⟨-, -, -, -, -, p5⟩ := Bps.blk6 HB8.out
  go_wp2_with fail
  refine (Bps.rmake_any w8 AL nl cL A1 n1 c1 LL x Hnl.out HRA8.out HFin.out.ok (by rw [HFin.out.tot, HM2.out]; omega) HM1.out HX8.out (by omega)).mono ?_
  rintro e w9 ⟨A9, c9, out, bo, rfl, ho9, hsm, -, hf9⟩
  obtain ⟨ho, rfl⟩ := hsm y HMk.out
  rw [ho] at ho9 ⊢
  clear hsm
  rw [HM2.out] at ho9 ⊢
  have HO9 := Lib.hid ho9
  have HO8' := Lib.hid (HO8.out.fr hf9 (by simp))
  have HB9 := Lib.hid (HB8.out.fr hf9 (by simp))
  have HF9 := Lib.hid (HF8.out.tr hf9)
  have HX9 := Lib.hid (HX8.out.later hf9 (by simp))
  have HY9 := Lib.hid (HY8.out.later hf9 (by simp))
  have HV9 := Lib.hid (HV8.out.later hf9 (by simp))
  have HMt9 := Lib.hid (HMt8.out.later hf9 (by simp))
  clear ho9 hf9 ho HB8 HRA8 HF8 HX8 HY8 HV8 HMt8 p5 HO8
  obtain ⟨p0, p1, p2, p3, p4, -⟩ := Bps.blk6 HB9.out
  have HS1 : Hid (∀ W, Fr [] w9 W → Calls Try.prog 12 #[.slice A8 n2 c8, .slice A2 n2 c2] W fun e w' => e = .returned (.bool true) ∧ w' = W) := Lib.hid fun W hW => (same_eq W A8 A2 n2 n2 c8 c2 y HM2.out HM2.out (HO8'.out.rd.later hW (by simp)) (HY9.out.later hW (by simp))).mono fun e w' ⟨h1, h2⟩ => ⟨h1, h2.symm⟩
  have HS2 : Hid (∀ W, Fr [] w9 W → Calls Try.prog 12 #[.slice A9 n2 c9, .slice A2 n2 c2] W fun e w' => e = .returned (.bool true) ∧ w' = W) := Lib.hid fun W hW => (same_eq W A9 A2 n2 n2 c9 c2 y HM2.out HM2.out (HO9.out.rd.later hW (by simp)) (HY9.out.later hW (by simp))).mono fun e w' ⟨h1, h2⟩ => ⟨h1, h2.symm⟩
  have HS3 : Hid (∀ W, Fr [] w9 W → Calls Try.prog 12 #[.slice M n3 cm, .slice A3 n3 c3] W fun e w' => e = .returned (.bool true) ∧ w' = W) := Lib.hid fun W hW => (same_eq W M A3 n3 n3 cm c3 v HM3.out HM3.out (HMt9.out.later hW (by simp)) (HV9.out.later hW (by simp))).mono fun e w' ⟨h1, h2⟩ => ⟨h1, h2.symm⟩
  have HU1 : Hid (∀ W, Fr [] w9 W → Calls Try.prog 13 #[.slice A1 n1 c1] W fun e w' => e = .returned (.int .u32 q3) ∧ w' = W) := Lib.hid fun W hW => by
    rw [← Hq3.out]
    exact (Crc.rsum_any W A1 n1 c1 x HM1.out (HX9.out.later hW (by simp)) (by omega)).mono fun e w' ⟨h1, h2⟩ => ⟨h1, h2.symm⟩
  have HU2 : Hid (∀ W, Fr [] w9 W → Calls Try.prog 13 #[.slice A2 n2 c2] W fun e w' => e = .returned (.int .u32 q4) ∧ w' = W) := Lib.hid fun W hW => by
    rw [← Hq4.out]
    exact (Crc.rsum_any W A2 n2 c2 y HM2.out (HY9.out.later hW (by simp)) (by omega)).mono fun e w' ⟨h1, h2⟩ => ⟨h1, h2.symm⟩
  go_wp2_with fail
  go_quiet (first
    | (go_at_call 12; with_reducible exact Calls.quiet_of_same (HS1.out _ ((Fr.refl [] w9).drewN _)))
    | (go_at_call 12; with_reducible exact Calls.quiet_of_same (HS2.out _ ((Fr.refl [] w9).drewN _)))
    | (go_at_call 12; with_reducible exact Calls.quiet_of_same (HS3.out _ ((Fr.refl [] w9).drewN _)))
    | (go_at_call 13; with_reducible exact Calls.quiet_of_same (HU1.out _ ((Fr.refl [] w9).drewN _)))
    | (go_at_call 13; with_reducible exact Calls.quiet_of_same (HU2.out _ ((Fr.refl [] w9).drewN _))))
  go_wp2
  go_ret
  exact ⟨by rfl, (HF9.out.drewN _).below (by simp) (Nat.le_refl _)⟩

end Bm
end Go.Proofs.Ytokfcknfkhlmfaa
