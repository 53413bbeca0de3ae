/-
  picklocklaw04.IpsApplies returns true for every input: the output is what the document says. No condition.
-/
import Derived.Test.YtcbmkmblfciflaaRawLaw
import Derived.Test.YtcbmkmblfciflaaMade
namespace Go.Proofs.Ytcbmkmblfciflaa
open Go.RowKit
namespace Ips

/-- The records of a patch that was made. -/
def recsOf (zs : List (Int × Int × List UInt8)) : List Rec := (zs.take 20).map norm
theorem recsOf_fits (zs : List (Int × Int × List UInt8)) : ∀ r ∈ recsOf zs, Fits r ∧ r.pos ≠ 4542278 := by
  intro r hr
  obtain ⟨z, _, rfl⟩ := List.mem_map.1 hr
  have := norm_fits z
  exact ⟨this.1, by omega⟩
theorem recsOf_reach (zs : List (Int × Int × List UInt8)) (m : Nat) (hm : m ≤ 16777216) : reach m (recsOf zs) ≤ 16777216 := by
  refine reach_le _ _ _ hm fun r hr => ?_
  obtain ⟨z, _, rfl⟩ := List.mem_map.1 hr
  have := norm_fits z
  omega
theorem madeB_len (zs : List (Int × Int × List UInt8)) (cu : Bool) (ct : Int) : (madeB zs cu ct).length ≤ 5000 := by
  have h := allB_len (zs.take 20)
  have h2 : (zs.take 20).length ≤ 20 := by simp; omega
  unfold madeB
  cases cu <;> simp [patch, eof] at * <;> omega
theorem madeB_false (zs : List (Int × Int × List UInt8)) (ct : Int) : madeB zs false ct = patch ++ ((recsOf zs).flatMap recB ++ eof) := by simp [madeB, allB, recsOf]
theorem parse_madeF (zs : List (Int × Int × List UInt8)) (ct : Int) : parse (madeB zs false ct) = (0, recsOf zs, -1) := by
  have hl := madeB_len zs false ct
  rw [madeB_false] at *
  exact parse_made0 _ (recsOf_fits zs) (by omega)
theorem parse_madeB (zs : List (Int × Int × List UInt8)) (cu : Bool) (ct : Int) : ∃ cut, parse (madeB zs cu ct) = (0, recsOf zs, cut) := by
  cases cu with
  | false => exact ⟨_, parse_madeF zs ct⟩
  | true =>
    obtain ⟨C, hC, hC2⟩ := below_of ct 3001 (by omega)
    have e : madeB zs true ct = patch ++ ((recsOf zs).flatMap recB ++ (eof ++ [hi C, mid C, lo C])) := by simp [madeB, allB, recsOf, hC]
    have hl := madeB_len zs true ct
    rw [e] at *
    exact ⟨_, parse_made3 _ C (by omega) (recsOf_fits zs) (by omega)⟩

set_option maxRecDepth 100000 in
set_option maxHeartbeats 4000000 in
theorem applies_walk (A : Option Addr) (n c : Nat) (cu : Bool) (ct : Int) (zs : List (Int × Int × List UInt8)) (a1 : Option Addr) (cap1 : Nat) (k : List UInt8) (w : World) (hn : zs.length = n) (hin : RecIn w A zs) (hnc : n ≤ c) (hcm : c ≤ maxLen) (hr1 : Rd w a1 k) (hc1 : a1 = none → cap1 = 0) (hlc1 : k.length ≤ cap1) (_hcm1 : cap1 ≤ maxLen) :
    Calls Try.prog 4 #[.agg #[.slice A n c, .bool cu, .int .i64 ct], .slice a1 k.length cap1] w fun e w' => e = .returned (.bool true) ∧ Below w.heap.size w w' := by
  obtain ⟨i0, hi, hz0, hz1, hz2⟩ := info_parts info5
  have HR1 := Lib.hid hr1
  have HC1 := Lib.hid hc1
  have HIn := Lib.hid hin
  have HN := Lib.hid hn
  have HL1 := Lib.hid (take_len k 3000 (by omega))
  have hcnt1 : (min (k.length : Int) 3000).toNat ≤ 3000 := by omega
  have HCm := Lib.hid hcm
  unfold maxLen at _hcm1
  obtain ⟨wb, hwb⟩ : ∃ wb, wb = w.alloc (.cells #[.slice A n c, .bool cu, .int .i64 ct] 34) := ⟨_, rfl⟩
  have HWB := Lib.hid hwb
  have HBox : Hid (Blk wb w.heap.size 34 #[.slice A n c, .bool cu, .int .i64 ct]) := Lib.hid (by rw [hwb]; exact Blk.fresh _ _ _)
  have HFb : Hid (Fr [] w wb) := Lib.hid (by rw [hwb]; exact (Fr.refl [] w).alloc _)
  clear hr1 hc1 hin hn hcm hwb
  go_enter Try.func4, Try.ntmps4
  go_wp2_with fail
  rw [← HWB.out]
  refine (shown_any wb).mono ?_
  rintro e w1 ⟨rfl, hf1⟩
  have HF1 := Lib.hid (HFb.out.tr hf1)
  have HB1 := Lib.hid (HBox.out.fr hf1 (by simp))
  have hs1 := HF1.out.size
  have hlt1 := HB1.out.lt
  clear hf1
  go_wp2_with (at_builtin; refine wpList_app _ rfl (.tmp 13) (.tmp 18) 22 rfl w1.heap.size i0 Try.underlying22 hi hz0 hz1 hz2 (.slice (some ⟨w1.heap.size, 0, none⟩) 0 0) [] rfl (Own.empty w1 _ (Nat.le_refl _)) a1 _ cap1 (k.take (min (k.length : Int) 3000).toNat) rfl HL1.out (rd_take (HR1.out.later (HF1.out.alloc _) (by simp)) _) HC1.out (by simp; omega) (by simp) ?_)
  intro A1 c1 w2 ho2 hf2 hlies
  have hf2' : Fr [] w1 w2 := ((Fr.refl [] w1).alloc _).trans hf2 (by simp [Value.ownBlock])
  have HF2 := Lib.hid (HF1.out.tr hf2')
  have HB2 := Lib.hid (HB1.out.fr hf2' (by simp))
  have HM1 : Hid ((k.take (min (k.length : Int) 3000).toNat).length = (min (k.length : Int) 3000).toNat) := HL1.out
  have HX : Hid (Rd w2 A1 (k.take (min (k.length : Int) 3000).toNat)) := Lib.hid ho2.rd
  have HXn : Hid (A1 = none → c1 = 0) := Lib.hid (by rcases ho2.form0 with ⟨_, _, h⟩ | ⟨g, h⟩; exact fun _ => h; exact fun e => by rw [h] at e; cases e)
  have b0 := HB2.out.cell 0
  have b1 := HB2.out.cell 1
  have b2 := HB2.out.cell 2
  simp at b0 b1 b2
  clear ho2 hf2 HR1 HC1 HL1 hlc1 hlies hf2'
  generalize (min (k.length : Int) 3000).toNat = n1 at *
  generalize k.take n1 = x at *
  go_wp2_with fail
  refine (made_any w2 A n c cu ct zs HN.out (HIn.out.later HF2.out) hnc HCm.out).mono ?_
  rintro e w9 ⟨A9, c9, rfl, ho9, hf9⟩
  clear b0 b1 b2
  have HF9 := Lib.hid hf9
  have HRp := Lib.hid ho9.rd
  have hcap := ho9.caps.1
  obtain ⟨cut, hcut0⟩ := parse_madeB zs cu ct
  have HPar := Lib.hid hcut0
  have hcut1 := (parse_cut (madeB zs cu ct)).2
  rw [hcut0] at hcut1
  have HAO := Lib.hid (applied_ok (madeB zs cu ct) x)
  rw [hcut0] at HAO
  have HRe := Lib.hid (recsOf_reach zs x.length (by rw [HM1.out]; omega))
  have HP := Lib.hid (HAO.out rfl HRe.out)
  have HW : Hid (∀ r ∈ recsOf zs, Fits r) := Lib.hid fun r hr => (recsOf_fits zs r hr).1
  have hfew : (recsOf zs).length ≤ 16777216 := by unfold recsOf; simp; omega
  simp only at hcut1 HP
  clear ho9 hf9 hcut0 HAO
  generalize hm9 : madeB zs cu ct = m9 at *
  clear hm9
  generalize recsOf zs = rs at *
  generalize hn9 : m9.length = n9 at *
  have HMp := Lib.hid hn9
  clear hn9
  generalize hk : rs.length = q at *
  have HQ := Lib.hid hk
  clear hk
  have HC2 := Lib.hid (refparse_any w9 A9 n9 c9 m9 HMp.out HRp.out hcap)
  rw [HPar.out] at HC2
  go_wp2_with fail
  refine HC2.out.mono ?_
  rintro e w3 ⟨A3, c3, rfl, hr3, hf3⟩
  have HF3 := Lib.hid hf3
  have HR3 := Lib.hid hr3
  simp only at HR3
  clear hr3 hf3
  simp only [HQ.out]
  have HCA := Lib.hid (apply_any w3 A9 A1 n9 c9 n1 c1 m9 x HMp.out (HRp.out.later HF3.out (by simp)) HM1.out (by omega) (HX.out.later (HF9.out.tr HF3.out) (by simp)))
  rw [HP.out] at HCA
  go_wp2_with fail
  refine HCA.out.mono ?_
  rintro e1 w5 ⟨A5, c5, rfl, hr5, _, _, _, hf5⟩
  have HR5 := Lib.hid hr5
  have HF5 := Lib.hid hf5
  clear hr5 hf5
  have HCR := Lib.hid (refapply_any w5 A3 A1 q c3 n1 c1 cut rs x HQ.out (HR3.out.later HF5.out (by simp)) HW.out hfew HM1.out (by omega) (HX.out.later ((HF9.out.tr HF3.out).tr HF5.out) (by simp)) HXn.out hcut1)
  generalize cutTo cut (rs.foldl layD x) = Y at *
  simp only at HR5
  go_wp2_with fail
  refine HCR.out.mono ?_
  rintro e1 w6 ⟨A6, c6, rfl, hr6, hf6⟩
  have HR6 := Lib.hid hr6
  have HF6 := Lib.hid hf6
  clear hr6 hf6
  go_wp2_with fail
  refine (same_eq w6 A5 A6 _ _ c5 c6 Y rfl rfl (HR5.out.later HF6.out (by simp)) HR6.out).mono ?_
  rintro e1 w7 ⟨rfl, rfl⟩
  go_wp2
  go_ret
  exact ⟨rfl, ((((HF2.out.tr HF9.out).tr HF3.out).tr HF5.out).tr HF6.out).below (by simp) (Nat.le_refl _)⟩

end Ips
end Go.Proofs.Ytcbmkmblfciflaa
