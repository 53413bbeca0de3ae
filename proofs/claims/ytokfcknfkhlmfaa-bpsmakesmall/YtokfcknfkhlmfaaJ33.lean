/-
  picklocklaw08.shown returns true, and turns nothing that was there.
  picklocklaw08.BpsmakeSmall returns true for every input: a patch has not more actions than the output bytes, and not more than 60 bytes, those of meta, and two for each byte of the output; no two FromSource, nor two FromPatch, stand next to each other. No condition.
-/
import Derived.Test.YtokfcknfkhlmfaaJ32
namespace Go.Proofs.Ytokfcknfkhlmfaa
open Go.RowKit
namespace Bm
open Bps (AppliedB)

def shA : List UInt8 := [97, 98, 99, 100, 101, 102, 103, 104, 105, 106, 107, 108, 109, 110, 111, 112]
def shB : List UInt8 := [105, 106, 107, 108, 109, 110, 111, 112, 88, 97, 98, 99, 100, 101, 102, 103, 104]
def shM : List UInt8 := [109, 101]

set_option maxRecDepth 100000 in
set_option maxHeartbeats 2000000 in
theorem shown8 (w : World) : Calls Try.prog 7 #[] w fun e w' => e = .returned (.bool true) ∧ Fr [] w w' := by
  obtain ⟨s, hs⟩ : ∃ s, w.heap.size = s := ⟨_, rfl⟩
  have kc := conv_const w s hs (bv shA).toArray 16 16
  have kd := conv_const (w.alloc (.cells (bv shA).toArray 5 (16, 17))) (s + 1) (by simp [hs]) (bv shB).toArray 17 17
  have ke := conv_const ((w.alloc (.cells (bv shA).toArray 5 (16, 17))).alloc (.cells (bv shB).toArray 5 (17, 18))) (s + 1 + 1) (by simp [hs]) (bv shM).toArray 2 2
  simp [bv, shA, shB, shM] at kc kd ke
  go_enter Try.func7, Try.ntmps7
  go_wp2_with fail
  clear kc kd ke
  have r0 : Rd (w.alloc (.cells (bv shA).toArray 5 (16, 17))) (some ⟨s, 0, none⟩) shA := rd_const w s hs shA 5 _
  have r1 : Rd ((w.alloc (.cells (bv shA).toArray 5 (16, 17))).alloc (.cells (bv shB).toArray 5 (17, 18))) (some ⟨s + 1, 0, none⟩) shB := rd_const _ (s + 1) (by simp [hs]) shB 5 _
  have r2 : Rd (((w.alloc (.cells (bv shA).toArray 5 (16, 17))).alloc (.cells (bv shB).toArray 5 (17, 18))).alloc (.cells (bv shM).toArray 5 (2, 3))) (some ⟨s + 1 + 1, 0, none⟩) shM := rd_const _ (s + 1 + 1) (by simp [hs]) shM 5 _
  have HR0 := Lib.hid (r0.later (S := []) (((Fr.refl [] _).alloc (.cells (bv shB).toArray 5 (17, 18))).alloc (.cells (bv shM).toArray 5 (2, 3))) (by simp))
  have HR1 := Lib.hid (r1.later (S := []) ((Fr.refl [] _).alloc (.cells (bv shM).toArray 5 (2, 3))) (by simp))
  have HR2 := Lib.hid r2
  have HF : Hid (Fr [] w (((w.alloc (.cells (bv shA).toArray 5 (16, 17))).alloc (.cells (bv shB).toArray 5 (17, 18))).alloc (.cells (bv shM).toArray 5 (2, 3)))) := Lib.hid ((((Fr.refl [] w).alloc _).alloc _).alloc _)
  clear r0 r1 r2
  change Calls Try.prog _ _ (((w.alloc (.cells (bv shA).toArray 5 (16, 17))).alloc (.cells (bv shB).toArray 5 (17, 18))).alloc (.cells (bv shM).toArray 5 (2, 3))) _
  generalize ((w.alloc (.cells (bv shA).toArray 5 (16, 17))).alloc (.cells (bv shB).toArray 5 (17, 18))).alloc (.cells (bv shM).toArray 5 (2, 3)) = w1 at *
  refine (create_any w1 (some ⟨s, 0, none⟩) (some ⟨s + 1, 0, none⟩) (some ⟨s + 1 + 1, 0, none⟩) 16 17 2 16 17 2 shA shB shM rfl rfl rfl (by decide) (by decide) (by decide) (by decide) (by decide) HR0.out HR1.out HR2.out (by simp)).mono ?_
  rintro e w2 ⟨σ, R, n, hR, hu, hn, rfl, hRl, hb2, hf2⟩
  have HP2 := Lib.hid (rd_blk hb2)
  have HR2' := Lib.hid (HR0.out.later hf2 (by simp))
  have HB2' := Lib.hid (HR1.out.later hf2 (by simp))
  have HF2 := Lib.hid (HF.out.tr hf2)
  have HRuns := Lib.hid hR
  have Hu := Lib.hid hu
  have Hn := Lib.hid hn
  clear hR hu hn hb2 hf2 HR0 HR1 HR2 HF
  go_wp2_with fail
  refine (apply_made w2 R (some ⟨s, 0, none⟩) n 16 16 shA shB shM σ HRuns.out Hu.out (by decide) (by decide) (by decide) Hn.out HP2.out rfl HR2'.out (by simp) (by decide) (by simp [maxLen])).mono ?_
  rintro e w3 ⟨A3, c3, rfl, ho3, hf3⟩
  rw [show (0, shB).2.length = 17 from rfl] at ho3 ⊢
  simp only at ho3 ⊢
  have HO3 := Lib.hid ho3
  have HP3 := Lib.hid (HP2.out.later hf3 (by simp))
  have HB3 := Lib.hid (HB2'.out.later hf3 (by simp))
  have HF3 := Lib.hid (HF2.out.tr hf3)
  clear ho3 hf3
  go_wp2_with fail
  refine (rparse_made w3 R n n (patO shA shB shM σ) (pat_fine shA shB shM σ HRuns.out Hu.out (by decide) (by decide) (by decide)) Hn.out HP3.out (Nat.le_refl _)).mono ?_
  rintro e w4 ⟨M, cm, AL, cL, rfl, hm4, -, -, hf4⟩
  have HO4 := Lib.hid (HO3.out.fr hf4 (by simp))
  have HB4 := Lib.hid (HB3.out.later hf4 (by simp))
  have HF4 := Lib.hid (HF3.out.tr hf4)
  have HM4 : Hid (Rd w4 M shM) := Lib.hid hm4
  rw [show (patO shA shB shM σ).i = 16 from rfl, show (patO shA shB shM σ).o = 17 from rfl, show (patO shA shB shM σ).mt.length = 2 from rfl]
  obtain ⟨Z1, hZ1⟩ : ∃ Z1, Crc.u (patO shA shB shM σ).s1 = Z1 := ⟨_, rfl⟩
  obtain ⟨Z2, hZ2⟩ : ∃ Z2, Crc.u (patO shA shB shM σ).s2 = Z2 := ⟨_, rfl⟩
  obtain ⟨ll, hll⟩ : ∃ ll, (patO shA shB shM σ).L.length = ll := ⟨_, rfl⟩
  rw [hZ1, hZ2, hll]
  clear hZ1 hZ2 hll hm4 hf4 HO3 HB3 HF3
  have hal : Fr [] w4 (w4.alloc (.cells #[.int .i64 16, .int .i64 17, .int .u32 Z1, .int .u32 Z2, .slice M 2 cm, .slice AL ll cL] 30)) := (Fr.refl [] w4).alloc _
  have h1 := run_str (P := Try.prog) (w := w4.alloc (.cells #[.int .i64 16, .int .i64 17, .int .u32 Z1, .int .u32 Z2, .slice M 2 cm, .slice AL ll cL] 30)) 22 9 5 (cap := c3) Try.underlying22 Try.underlying5 Try.underlying9 (l := shB) (A := A3) ((HO4.out.rd).later hal (by simp))
  have h2 := run_str (P := Try.prog) (w := w4.alloc (.cells #[.int .i64 16, .int .i64 17, .int .u32 Z1, .int .u32 Z2, .slice M 2 cm, .slice AL ll cL] 30)) 22 9 5 (cap := 17) Try.underlying22 Try.underlying5 Try.underlying9 (l := shB) (A := some ⟨s + 1, 0, none⟩) (HB4.out.later hal (by simp))
  have h3 := run_str (P := Try.prog) (w := w4.alloc (.cells #[.int .i64 16, .int .i64 17, .int .u32 Z1, .int .u32 Z2, .slice M 2 cm, .slice AL ll cL] 30)) 22 9 5 (cap := cm) Try.underlying22 Try.underlying5 Try.underlying9 (l := shM) (A := M) (HM4.out.later hal (by simp))
  simp only [show shB.length = 17 from rfl, show shM.length = 2 from rfl] at h1 h2 h3
  unfold shM at h3
  have HF5 := Lib.hid (HF4.out.tr hal)
  clear hal
  go_wp2
  go_ret
  exact ⟨by rfl, HF5.out⟩

end Bm
end Go.Proofs.Ytokfcknfkhlmfaa

namespace Go.Proofs.Ytokfcknfkhlmfaa
open Go.RowKit
namespace Bm
open Acts (ActRd)

set_option maxRecDepth 100000 in
set_option maxHeartbeats 4000000 in
theorem small_walk (a0 : Option Addr) (cap0 : Nat) (l : List UInt8) (a1 : Option Addr) (cap1 : Nat) (k : List UInt8) (a2 : Option Addr) (cap2 : Nat) (j : List UInt8) (w : World) (hr : Rd w a0 l) (hc : a0 = none → cap0 = 0) (hlc : l.length ≤ cap0) (_hcm : cap0 ≤ maxLen) (hr1 : Rd w a1 k) (hc1 : a1 = none → cap1 = 0) (hlc1 : k.length ≤ cap1) (_hcm1 : cap1 ≤ maxLen) (hr2 : Rd w a2 j) (hc2 : a2 = none → cap2 = 0) (hlc2 : j.length ≤ cap2) (_hcm2 : cap2 ≤ maxLen) :
    Calls Try.prog 4 #[.slice a0 l.length cap0, .slice a1 k.length cap1, .slice a2 j.length cap2] w fun e w' => e = .returned (.bool true) ∧ Below w.heap.size w w' := by
  obtain ⟨i0, hi, hz0, hz1, hz2⟩ := info_parts info5
  have HR := Lib.hid hr
  have HC := Lib.hid hc
  have HR1 := Lib.hid hr1
  have HC1 := Lib.hid hc1
  have HR2 := Lib.hid hr2
  have HC2 := Lib.hid hc2
  have HL := Lib.hid (take_len l 2000 (by omega))
  have HL1 := Lib.hid (take_len k 2000 (by omega))
  have HL2 := Lib.hid (take_len j 100 (by omega))
  have hcnt : (min (l.length : Int) 2000).toNat ≤ 2000 := by omega
  have hcnt1 : (min (k.length : Int) 2000).toNat ≤ 2000 := by omega
  have hcnt2 : (min (j.length : Int) 100).toNat ≤ 100 := by omega
  unfold maxLen at _hcm _hcm1 _hcm2
  clear hr hc hr1 hc1 hr2 hc2
  go_enter Try.func4, Try.ntmps4
  go_wp2_with (first
    | (go_at_call 7; refine (shown8 _).mono ?_; rintro e w1 ⟨rfl, hf1⟩; have HF1 := Lib.hid hf1; have hs1 := hf1.size; clear hf1)
    | (at_builtin; refine wpList_app _ rfl (.tmp 14) (.tmp 19) 22 rfl w.heap.size i0 Try.underlying22 hi hz0 hz1 hz2 (.slice (some ⟨w1.heap.size, 0, none⟩) 0 0) [] rfl (Own.empty w1 _ hs1) a0 _ cap0 (l.take (min (l.length : Int) 2000).toNat) rfl HL.out (rd_take (HR.out.later (HF1.out.alloc _) (by simp)) _) HC.out (by simp; omega) (by simp; omega) ?_))
  intro A1 c1 w2 ho2 hf2 hlies
  have HF2 : Hid (Fr [] w w2) := Lib.hid ((HF1.out.alloc _).trans hf2 (by simp [Value.ownBlock]; omega))
  have HM1 : Hid ((l.take (min (l.length : Int) 2000).toNat).length = (min (l.length : Int) 2000).toNat) := HL.out
  have HX : Hid (Rd w2 A1 (l.take (min (l.length : Int) 2000).toNat)) := Lib.hid ho2.rd
  obtain ⟨hna1, hna2⟩ := ho2.caps
  have hs2 := HF2.out.size
  clear ho2 hf2 HR HC HL hlc hs1 hlies
  generalize (min (l.length : Int) 2000).toNat = n1 at *
  generalize l.take n1 = x at *
  go_wp2_with (at_builtin; refine wpList_app _ rfl (.tmp 21) (.tmp 26) 22 rfl w.heap.size i0 Try.underlying22 hi hz0 hz1 hz2 (.slice (some ⟨w2.heap.size, 0, none⟩) 0 0) [] rfl (Own.empty w2 _ hs2) a1 _ cap1 (k.take (min (k.length : Int) 2000).toNat) rfl HL1.out (rd_take (HR1.out.later (HF2.out.alloc _) (by simp)) _) HC1.out (by simp; omega) (by simp; omega) ?_)
  intro A2 c2 w3 ho3 hf3 hlies
  have HF3' : Hid (Fr [] w2 w3) := Lib.hid (((Fr.refl [] w2).alloc _).trans hf3 (by simp [Value.ownBlock]))
  have HF3 : Hid (Fr [] w w3) := Lib.hid (HF2.out.tr HF3'.out)
  have HM2 : Hid ((k.take (min (k.length : Int) 2000).toNat).length = (min (k.length : Int) 2000).toNat) := HL1.out
  have HY : Hid (Rd w3 A2 (k.take (min (k.length : Int) 2000).toNat)) := Lib.hid ho3.rd
  have HX3 := Lib.hid (HX.out.later HF3'.out (by simp))
  obtain ⟨hnb1, hnb2⟩ := ho3.caps
  have hs3 := HF3.out.size
  clear ho3 hf3 HR1 HC1 HL1 hlc1 hs2 hlies HX HF3' HF2
  generalize (min (k.length : Int) 2000).toNat = n2 at *
  generalize k.take n2 = y at *
  go_wp2_with (at_builtin; refine wpList_app _ rfl (.tmp 28) (.tmp 33) 22 rfl w.heap.size i0 Try.underlying22 hi hz0 hz1 hz2 (.slice (some ⟨w3.heap.size, 0, none⟩) 0 0) [] rfl (Own.empty w3 _ hs3) a2 _ cap2 (j.take (min (j.length : Int) 100).toNat) rfl HL2.out (rd_take (HR2.out.later (HF3.out.alloc _) (by simp)) _) HC2.out (by simp; omega) (by simp; omega) ?_)
  intro A3 c3 w4 ho4 hf4 hlies
  have HF4' : Hid (Fr [] w3 w4) := Lib.hid (((Fr.refl [] w3).alloc _).trans hf4 (by simp [Value.ownBlock]))
  have HF4 : Hid (Fr [] w w4) := Lib.hid (HF3.out.tr HF4'.out)
  have HM3 : Hid ((j.take (min (j.length : Int) 100).toNat).length = (min (j.length : Int) 100).toNat) := HL2.out
  have HV : Hid (Rd w4 A3 (j.take (min (j.length : Int) 100).toNat)) := Lib.hid ho4.rd
  have HVn : Hid (A3 = none → c3 = 0) := Lib.hid (by rcases ho4.form0 with ⟨_, _, h⟩ | ⟨g, h⟩; exact fun _ => h; exact fun e => by rw [h] at e; cases e)
  have HX4 := Lib.hid (HX3.out.later HF4'.out (by simp))
  have HY4 := Lib.hid (HY.out.later HF4'.out (by simp))
  clear ho4 hf4 HR2 HC2 HL2 hlc2 hs3 hlies HX3 HY HF4' HF3
  generalize (min (j.length : Int) 100).toNat = n3 at *
  generalize j.take n3 = v at *
  go_wp2_with fail
  refine (create_any w4 A1 A2 A3 c1 c2 c3 n1 n2 n3 x y v HM1.out HM2.out HM3.out hna1 hnb1 (by omega) (by omega) (by omega) HX4.out HY4.out HV.out HVn.out).mono ?_
  rintro e w5 ⟨σ, R, n, hR, hu, hn, rfl, hRl, hb5, hf5⟩
  have HRu := Lib.hid hR
  have Hu := Lib.hid hu
  have Hn := Lib.hid hn
  have HP5 := Lib.hid (rd_blk hb5)
  have HF5 := Lib.hid (HF4.out.tr hf5)
  have hlen := pat_len x y v σ hR hu (by rw [HM1.out]; omega) (by rw [HM2.out]; omega) (by rw [HM3.out]; omega)
  rw [hn, HM2.out, HM3.out] at hlen
  have HFin := Lib.hid (done_fin hR hu (by rw [HM1.out]; omega) (by rw [HM2.out]; omega))
  have HFine := Lib.hid (pat_fine x y v σ hR hu (by rw [HM1.out]; omega) (by rw [HM2.out]; omega) (by rw [HM3.out]; omega))
  clear hR hu hn hb5 hf5 HX4 HY4 HV HVn HF4
  go_wp2_with fail
  refine (rparse_made w5 R n n (patO x y v σ) HFine.out Hn.out HP5.out (Nat.le_refl _)).mono ?_
  rintro e w6 ⟨M, cm, AL, cL, rfl, -, hra, hlc, hf6⟩
  have HRA := Lib.hid hra
  have HF6 := Lib.hid (HF5.out.tr hf6)
  obtain ⟨LL, hLL⟩ : ∃ LL, σ.L ++ leftL y σ.told y.length = LL := ⟨_, rfl⟩
  rw [hLL] at HFin
  have e1 : (patO x y v σ).L = LL := hLL
  rw [e1] at HRA hlc ⊢
  obtain ⟨nl, hnl⟩ : ∃ nl, LL.length = nl := ⟨_, rfl⟩
  have hcnt3 := HFin.out.cnt
  rw [hnl, HM2.out] at hcnt3
  rw [hnl] at hlc ⊢
  have Hnl := Lib.hid hnl
  obtain ⟨q1, hq1⟩ : ∃ q1, (patO x y v σ).i = q1 := ⟨_, rfl⟩
  obtain ⟨q2, hq2⟩ : ∃ q2, (patO x y v σ).o = q2 := ⟨_, rfl⟩
  obtain ⟨q3, hq3⟩ : ∃ q3, Crc.u (patO x y v σ).s1 = q3 := ⟨_, rfl⟩
  obtain ⟨q4, hq4⟩ : ∃ q4, Crc.u (patO x y v σ).s2 = q4 := ⟨_, rfl⟩
  obtain ⟨q5, hq5⟩ : ∃ q5, (patO x y v σ).mt.length = q5 := ⟨_, rfl⟩
  rw [hq1, hq2, hq3, hq4, hq5]
  clear hq1 hq2 hq3 hq4 hq5 hra hf6 e1 hLL hnl HP5 HF5
  obtain ⟨pb, hpb⟩ : ∃ pb, w6.heap.size = pb := ⟨_, rfl⟩
  go_wp2_with fail
  have hal : Fr [] w6 (w6.alloc (.cells #[.int .i64 (q1 : Int), .int .i64 (q2 : Int), .int .u32 q3, .int .u32 q4, .slice M q5 cm, .slice AL nl cL] 30)) := (Fr.refl [] w6).alloc _
  have HB7 : Hid (Blk (w6.alloc (.cells #[.int .i64 (q1 : Int), .int .i64 (q2 : Int), .int .u32 q3, .int .u32 q4, .slice M q5 cm, .slice AL nl cL] 30)) pb 30 #[.int .i64 (q1 : Int), .int .i64 (q2 : Int), .int .u32 q3, .int .u32 q4, .slice M q5 cm, .slice AL nl cL]) := Lib.hid (by
    have h1 := Blk.fresh w6 30 #[.int .i64 (q1 : Int), .int .i64 (q2 : Int), .int .u32 q3, .int .u32 q4, .slice M q5 cm, .slice AL nl cL]
    rw [hpb] at h1
    exact h1)
  have HRA7 := Lib.hid (HRA.out.later hal (by simp))
  have HF7 := Lib.hid (HF6.out.tr hal)
  clear hal HRA HF6
  generalize w6.alloc (.cells #[.int .i64 (q1 : Int), .int .i64 (q2 : Int), .int .u32 q3, .int .u32 q4, .slice M q5 cm, .slice AL nl cL] 30) = w7 at *
  have HC5 : Hid (∀ W, Fr [] w7 W → W.cell? ⟨pb, 5, none⟩ = some (.slice AL nl cL)) := Lib.hid fun W hW => (Bps.blk6 (HB7.out.fr hW (by simp))).2.2.2.2.2
  have HEnd : Hid (∀ W, Fr [] w7 W → Below w.heap.size w W) := Lib.hid fun W hW => (HF7.out.tr hW).below (by simp) (Nat.le_refl _)
  go_loopw [12] (fun s wr => ∃ i : Nat, s = .int .i64 (i : Int) ∧ 1 ≤ i ∧ Fr [] w7 wr) (fun s _ => nl - (intOf s).toNat)
  case atStart => exact ⟨1, rfl, Nat.le_refl _, Fr.refl _ _⟩
  case round =>
    obtain ⟨i, rfl, hi1, hF⟩ := hrel
    have HF := Lib.hid hF
    have c5 := HC5.out _ hF
    clear hF
    by_cases hlt : i < nl
    · have hlti : (i : Int) < nl := by omega
      obtain ⟨b, o, rfl, hact⟩ := (HRA7.out.later HF.out (by simp)) (by rw [Hnl.out]; omega)
      obtain ⟨i1, hi2⟩ : ∃ i1, i1 + 1 = i := ⟨i - 1, by omega⟩
      obtain ⟨_, _, k1, -⟩ := hact i (by rw [Hnl.out]; exact hlt)
      obtain ⟨_, _, k2, -⟩ := hact i1 (by rw [Hnl.out]; omega)
      have hne := NT_get HFin.out.nt i1 (LL[i1]'(by rw [Hnl.out]; omega)) (LL[i]'(by rw [Hnl.out]; exact hlt)) (List.getElem?_eq_getElem _) (by rw [hi2]; exact List.getElem?_eq_getElem _)
      obtain ⟨x1, hx1⟩ : ∃ x1, (LL[i]'(by rw [Hnl.out]; exact hlt)).kind = x1 := ⟨_, rfl⟩
      obtain ⟨x2, hx2⟩ : ∃ x2, (LL[i1]'(by rw [Hnl.out]; omega)).kind = x2 := ⟨_, rfl⟩
      rw [hx1] at k1 hne
      rw [hx2] at k2 hne
      have d1 : (i : Int) - 1 = (i1 : Int) := by omega
      have d2 : IntKind.i64.wrap (i1 : Int) = (i1 : Int) := by rw [IntKind.wrap_i64]; omega
      have d3 : (i1 : Int) < nl := by omega
      have d4 : (0 : Int) ≤ i1 := by omega
      have d5 : (0 : Int) ≤ i := by omega
      clear hact hx1 hx2
      go_wp2_with fail
      go_cut [82] (fun s82 wx => s82 = .bool false ∧ Fr [] w7 wx)
      case first =>
        by_cases h2 : x1 < 2
        · have f1 : (x1 : Int) < 2 := by omega
          have f2 : ((x2 : Int) == (x1 : Int)) = false := by simp; omega
          have f3 : decide ((x1 : Int) < 2) = true := by simp; omega
          go_quiet (fail)
          go_wp2_with fail
          go_meet
          exact ⟨by simp, HF.out.drewN _⟩
        · have f1 : ¬ (x1 : Int) < 2 := by omega
          have f3 : decide ((x1 : Int) < 2) = false := by simp; omega
          go_quiet (fail)
          go_wp2_with fail
          go_meet
          exact ⟨by simp, HF.out.drewN _⟩
      case rest =>
        obtain ⟨rfl, hfc⟩ := hcut
        have HFc := Lib.hid hfc
        clear hfc c5 k1 k2
        go_wp2
        go_roundw
        case rel => exact ⟨i + 1, by go_num, by omega, HFc.out⟩
        case measure => simp [intOf]; omega
    · have hlti : ¬ (i : Int) < nl := by omega
      have g1 : (nl : Int) ≤ n2 := by omega
      have g2 : decide ((nl : Int) ≤ n2) = true := by simp; omega
      obtain ⟨s1, hs1⟩ : ∃ s1, 60 + n3 = s1 := ⟨_, rfl⟩
      obtain ⟨s2, hs2⟩ : ∃ s2, 2 * n2 = s2 := ⟨_, rfl⟩
      obtain ⟨s3, hs3⟩ : ∃ s3, s1 + s2 = s3 := ⟨_, rfl⟩
      have p1 : 60 + (n3 : Int) = (s1 : Int) := by omega
      have p2 : 2 * (n2 : Int) = (s2 : Int) := by omega
      have p3 : (s1 : Int) + (s2 : Int) = (s3 : Int) := by omega
      have p4 : IntKind.i64.wrap (s1 : Int) = (s1 : Int) := by rw [IntKind.wrap_i64]; omega
      have p5 : IntKind.i64.wrap (s2 : Int) = (s2 : Int) := by rw [IntKind.wrap_i64]; omega
      have p6 : IntKind.i64.wrap (s3 : Int) = (s3 : Int) := by rw [IntKind.wrap_i64]; omega
      have p7 : (n : Int) ≤ s3 := by omega
      have p8 : decide ((n : Int) ≤ s3) = true := by simp; omega
      clear hs1 hs2 hs3
      go_wp2
      go_ret
      exact ⟨by rfl, HEnd.out _ HF.out⟩

end Bm
end Go.Proofs.Ytokfcknfkhlmfaa
