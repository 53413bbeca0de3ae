/-
  picklocklaw04.IpsParts returns true for every input: what two patches do, one behind the other, the records of both do. No condition.
-/
import Derived.Test.YtcbmkmblfciflaaAppliesLaw
namespace Go.Proofs.Ytcbmkmblfciflaa
open Go.RowKit
namespace Ips

theorem foldl_len (rs : List Rec) (x : List UInt8) (hw : ∀ r ∈ rs, Wf r) : (rs.foldl layD x).length = reach x.length rs := by
  have h := reach_ge x.length rs
  rw [layD_all rs x hw, layAll_length _ _ hw (fun r hr => by rw [pad_length]; have := reach_mem x.length rs r hr; omega), pad_length]
  omega
theorem wf_of (zs : List (Int × Int × List UInt8)) : ∀ r ∈ recsOf zs, Wf r := fun r hr => (recsOf_fits zs r hr).1.1
theorem applied_made (zs : List (Int × Int × List UInt8)) (ct : Int) (x : List UInt8) (hx : x.length ≤ 16777216) : applied (madeB zs false ct) x = (0, (recsOf zs).foldl layD x) := by
  have h := applied_ok (madeB zs false ct) x
  rw [parse_madeF] at h
  simp only at h
  rw [h trivial (recsOf_reach zs _ hx), cutTo_none _ _ (by omega)]
theorem both_bytes (za zb : List (Int × Int × List UInt8)) (cta ctb : Int) : (madeB za false cta).take ((madeB za false cta).length - 3) ++ (madeB zb false ctb).drop 5 = patch ++ ((recsOf za ++ recsOf zb).flatMap recB ++ eof) := by
  rw [madeB_false, madeB_false]
  have e1 : (patch ++ ((recsOf za).flatMap recB ++ eof)).take ((patch ++ ((recsOf za).flatMap recB ++ eof)).length - 3) = patch ++ (recsOf za).flatMap recB := by
    rw [← List.append_assoc, List.length_append]
    show ((patch ++ (recsOf za).flatMap recB) ++ eof).take ((patch ++ (recsOf za).flatMap recB).length + 3 - 3) = _
    rw [Nat.add_sub_cancel, List.take_left]
  have e2 : (patch ++ ((recsOf zb).flatMap recB ++ eof)).drop 5 = (recsOf zb).flatMap recB ++ eof := by
    rw [show (5 : Nat) = patch.length from rfl, List.drop_left]
  rw [e1, e2]
  simp
theorem parse_both (za zb : List (Int × Int × List UInt8)) (cta ctb : Int) : parse ((madeB za false cta).take ((madeB za false cta).length - 3) ++ (madeB zb false ctb).drop 5) = (0, recsOf za ++ recsOf zb, -1) := by
  have h1 := madeB_len za false cta
  have h2 := madeB_len zb false ctb
  have hl : ((madeB za false cta).take ((madeB za false cta).length - 3) ++ (madeB zb false ctb).drop 5).length ≤ 16777216 := by simp; omega
  rw [both_bytes] at *
  refine parse_made0 _ (fun r hr => ?_) hl
  rcases List.mem_append.1 hr with h | h
  · exact recsOf_fits za r h
  · exact recsOf_fits zb r h
theorem applied_both (za zb : List (Int × Int × List UInt8)) (cta ctb : Int) (x : List UInt8) (hx : x.length ≤ 16777216) :
    applied ((madeB za false cta).take ((madeB za false cta).length - 3) ++ (madeB zb false ctb).drop 5) x = (0, (recsOf zb).foldl layD ((recsOf za).foldl layD x)) := by
  have h := applied_ok ((madeB za false cta).take ((madeB za false cta).length - 3) ++ (madeB zb false ctb).drop 5) x
  rw [parse_both] at h
  simp only at h
  have hr : reach x.length (recsOf za ++ recsOf zb) ≤ 16777216 := by
    refine reach_le _ _ _ hx fun r hr => ?_
    rcases List.mem_append.1 hr with h | h
    · obtain ⟨z, _, rfl⟩ := List.mem_map.1 h
      have := norm_fits z
      omega
    · obtain ⟨z, _, rfl⟩ := List.mem_map.1 h
      have := norm_fits z
      omega
  rw [h trivial hr, cutTo_none _ _ (by omega), List.foldl_append]
theorem madeB_ge (zs : List (Int × Int × List UInt8)) (ct : Int) : 8 ≤ (madeB zs false ct).length := by
  rw [madeB_false]
  simp [patch, eof]

set_option maxRecDepth 100000 in
set_option maxHeartbeats 4000000 in
theorem parts_walk (A : Option Addr) (n c : Nat) (cu : Bool) (ct : Int) (za : List (Int × Int × List UInt8)) (A' : Option Addr) (n' c' : Nat) (cu' : Bool) (ct' : Int) (zb : List (Int × Int × List UInt8)) (a1 : Option Addr) (cap1 : Nat) (k : List UInt8) (w : World)
    (hn : za.length = n) (hin : RecIn w A za) (hnc : n ≤ c) (hcm : c ≤ maxLen) (hn' : zb.length = n') (hin' : RecIn w A' zb) (hnc' : n' ≤ c') (hcm' : c' ≤ maxLen) (hr1 : Rd w a1 k) (hc1 : a1 = none → cap1 = 0) (hlc1 : k.length ≤ cap1) (_hcm1 : cap1 ≤ maxLen) :
    Calls Try.prog 6 #[.agg #[.slice A n c, .bool cu, .int .i64 ct], .agg #[.slice A' n' c', .bool cu', .int .i64 ct'], .slice a1 k.length cap1] w fun e w' => e = .returned (.bool true) ∧ Below w.heap.size w w' := by
  obtain ⟨i0, hi, hz0, hz1, hz2⟩ := info_parts info5
  have HR1 := Lib.hid hr1
  have HC1 := Lib.hid hc1
  have HIn := Lib.hid hin
  have HN := Lib.hid hn
  have HIn' := Lib.hid hin'
  have HN' := Lib.hid hn'
  have HL1 := Lib.hid (take_len k 3000 (by omega))
  have hcnt1 : (min (k.length : Int) 3000).toNat ≤ 3000 := by omega
  have HCm := Lib.hid hcm
  have HCm' := Lib.hid hcm'
  unfold maxLen at _hcm1
  obtain ⟨wb, hwb⟩ : ∃ wb, wb = (w.alloc (.cells #[.slice A n c, .bool cu, .int .i64 ct] 34)).alloc (.cells #[.slice A' n' c', .bool cu', .int .i64 ct'] 34) := ⟨_, rfl⟩
  have HWB := Lib.hid hwb
  have HBox : Hid (Blk wb w.heap.size 34 #[.slice A n c, .bool cu, .int .i64 ct]) := Lib.hid (by rw [hwb]; exact (Blk.fresh w _ _).fr ((Fr.refl [] _).alloc _) (by simp))
  have HBox' : Hid (Blk wb (w.heap.size + 1) 34 #[.slice A' n' c', .bool cu', .int .i64 ct']) := Lib.hid (by
    rw [hwb]
    have h := Blk.fresh (w.alloc (.cells #[.slice A n c, .bool cu, .int .i64 ct] 34)) 34 #[.slice A' n' c', .bool cu', .int .i64 ct']
    rw [World.size_alloc] at h
    exact h)
  have HFb : Hid (Fr [] w wb) := Lib.hid (by rw [hwb]; exact ((Fr.refl [] w).alloc _).alloc _)
  clear hr1 hc1 hin hn hcm hwb hin' hn' hcm'
  go_enter Try.func6, Try.ntmps6
  go_wp2_with fail
  rw [← HWB.out]
  refine (shown_any wb).mono ?_
  rintro e w1 ⟨rfl, hf1⟩
  have HF1 := Lib.hid (HFb.out.tr hf1)
  have HB1 := Lib.hid (HBox.out.fr hf1 (by simp))
  have HB1' := Lib.hid (HBox'.out.fr hf1 (by simp))
  have hs1 := HF1.out.size
  clear hf1
  go_wp2_with (at_builtin; refine wpList_app _ rfl (.tmp 18) (.tmp 23) 22 rfl w1.heap.size i0 Try.underlying22 hi hz0 hz1 hz2 (.slice (some ⟨w1.heap.size, 0, none⟩) 0 0) [] rfl (Own.empty w1 _ (Nat.le_refl _)) a1 _ cap1 (k.take (min (k.length : Int) 3000).toNat) rfl HL1.out (rd_take (HR1.out.later (HF1.out.alloc _) (by simp)) _) HC1.out (by simp; omega) (by simp) ?_)
  intro A1 c1 w2 ho2 hf2 hlies
  have hf2' : Fr [] w1 w2 := ((Fr.refl [] w1).alloc _).trans hf2 (by simp [Value.ownBlock])
  have HF2 := Lib.hid (HF1.out.tr hf2')
  have HB2 := Lib.hid (HB1.out.fr hf2' (by simp))
  have HB2' := Lib.hid (HB1'.out.fr hf2' (by simp))
  have HM1 : Hid ((k.take (min (k.length : Int) 3000).toNat).length = (min (k.length : Int) 3000).toNat) := HL1.out
  have HX2 : Hid (Rd w2 A1 (k.take (min (k.length : Int) 3000).toNat)) := Lib.hid ho2.rd
  have HXb : Hid (∀ ad, A1 = some ad → w.heap.size + 2 ≤ ad.block) := Lib.hid (by
    intro ad e
    have h1 := HB1'.out.lt
    rcases ho2.form0 with ⟨h, _⟩ | ⟨g, h⟩
    · rw [h] at e; cases e
    · rw [h] at e; cases e
      have := (ho2.lt g (by rw [h]; rfl)).1
      simp; omega)
  have b0 := HB2.out.cell 0
  have b1 := HB2.out.cell 1
  have b2 := HB2.out.cell 2
  have z1 := HB2.out.frozen 1
  have b0' := HB2'.out.cell 0
  have b1' := HB2'.out.cell 1
  have b2' := HB2'.out.cell 2
  have z1' := HB2'.out.frozen 1
  simp at b0 b1 b2 b0' b1' b2'
  clear ho2 hf2 HR1 HC1 HL1 hlc1 hlies hf2'
  generalize (min (k.length : Int) 3000).toNat = n1 at *
  generalize k.take n1 = x at *
  obtain ⟨w3, hw3⟩ : ∃ w3, w3 = (w2.setCell ⟨w.heap.size, 1, none⟩ (.bool false)).setCell ⟨w.heap.size + 1, 1, none⟩ (.bool false) := ⟨_, rfl⟩
  have HW3 := Lib.hid hw3
  have hf3 : Fr [w.heap.size, w.heap.size + 1] w2 w3 := by rw [hw3]; exact ((Fr.refl _ w2).setCell (by simp) _).setCell (by simp) _
  have HF3 : Hid (Fr [] w w3) := Lib.hid (HF2.out.trans hf3 (by simp))
  have HX3 := Lib.hid (HX2.out.fr hf3 (fun ad e hm => by have := HXb.out ad e; simp at hm; omega))
  have HB3' : Hid (Blk w3 (w.heap.size + 1) 34 #[.slice A' n' c', .bool false, .int .i64 ct']) := Lib.hid (by
    rw [hw3]
    have h := (HB2'.out.fr ((Fr.refl [w.heap.size] w2).setCell (p := ⟨w.heap.size, 1, none⟩) (by simp) (.bool false)) (by simp)).put 1 (.bool false)
    simpa using h)
  clear hw3 hf3
  go_wp2_with fail
  rw [← HW3.out]
  refine (made_any w3 A n c false ct za HN.out (HIn.out.later HF3.out) hnc HCm.out).mono ?_
  rintro e w8 ⟨A8, c8, rfl, ho8, hf8⟩
  have HB8' := HB3'.out.fr hf8 (by simp)
  have e0 := HB8'.cell 0
  have e1 := HB8'.cell 1
  have e2 := HB8'.cell 2
  simp at e0 e1 e2
  have HO8 := Lib.hid ho8
  have HF8 := Lib.hid hf8
  clear b0 b1 b2 z1 b0' b1' b2' z1' ho8 hf8 HB8'
  go_wp2_with fail
  refine (made_any w8 A' n' c' false ct' zb HN'.out (HIn'.out.later (HF3.out.tr HF8.out)) hnc' HCm'.out).mono ?_
  rintro e w9 ⟨A9, c9, rfl, ho9, hf9⟩
  have HO9 := Lib.hid ho9
  have HF9 := Lib.hid hf9
  clear e0 e1 e2 ho9 hf9
  have HAa := Lib.hid (applied_made za ct x (by rw [HM1.out]; omega))
  have HAb := Lib.hid (fun y hy => applied_made zb ct' y hy)
  have HAc := Lib.hid (applied_both za zb ct ct' x (by rw [HM1.out]; omega))
  have HLa := Lib.hid (foldl_len (recsOf za) x (wf_of za))
  have HLb := Lib.hid (fun y => foldl_len (recsOf zb) y (wf_of zb))
  have HRa := Lib.hid (recsOf_reach za x.length (by rw [HM1.out]; omega))
  have HRb := Lib.hid (fun m hm => recsOf_reach zb m hm)
  have hga := madeB_ge za ct
  have hgb := madeB_ge zb ct'
  have hla := madeB_len za false ct
  have hlb := madeB_len zb false ct'
  generalize madeB za false ct = P at *
  generalize madeB zb false ct' = Q at *
  generalize hLP : P.length = L1 at *
  have HLP := Lib.hid hLP
  clear hLP
  generalize hLQ : Q.length = L2 at *
  have HLQ := Lib.hid hLQ
  clear hLQ
  obtain ⟨g8, h8⟩ : ∃ g, A8 = some ⟨g, 0, none⟩ := by
    rcases HO8.out.form0 with ⟨_, h, _⟩ | h
    · omega
    · exact h
  subst h8
  obtain ⟨g9, h9⟩ : ∃ g, A9 = some ⟨g, 0, none⟩ := by
    rcases HO9.out.form0 with ⟨_, h, _⟩ | h
    · omega
    · exact h
  subst h9
  have hc8 := HO8.out.caps.1
  have hc9 := HO9.out.caps.1
  have hc82 := HO8.out.caps.2
  have hc92 := HO9.out.caps.2
  have HRP := Lib.hid (HO8.out.rd.later HF9.out (by simp))
  have HRQ := Lib.hid HO9.out.rd
  obtain ⟨M1, hM1⟩ : ∃ M1, M1 + 3 = L1 := ⟨L1 - 3, by omega⟩
  have m1 : (L1 : Int) - 3 = (M1 : Int) := by omega
  have m1' : IntKind.i64.wrap (M1 : Int) = (M1 : Int) := by rw [IntKind.wrap_i64]; omega
  have m2 : (0 : Int) ≤ (M1 : Int) := by omega
  have m3 : (M1 : Int) ≤ (c8 : Int) := by omega
  have m4 : (5 : Int) ≤ (L2 : Int) := by omega
  have m5 : (L2 : Int) ≤ (c9 : Int) := by omega
  have m6 : ¬ c9 = 5 := by omega
  have HT1 : Hid ((P.take M1).length = M1) := Lib.hid (by rw [List.length_take, HLP.out]; omega)
  have HD5 : Hid ((Q.drop 5).length = L2 - 5) := Lib.hid (by rw [List.length_drop, HLQ.out])
  have HRd5 : Hid (Rd w9 (some ⟨g9, 5, none⟩) (Q.drop 5)) := Lib.hid (by
    have h := cut_rd (k := 5) (n := L2 - 5) HRQ.out (by rw [HLQ.out]; omega) (by rw [HLQ.out]; exact hc9)
    rw [if_neg m6, List.take_of_length_le (by rw [HD5.out]; exact Nat.le_refl _)] at h
    exact h)
  have HOE : Hid (Own ((w9.alloc (.cells #[] 5)).drew) w9.heap.size (.slice (some ⟨w9.heap.size, 0, none⟩) 0 0) []) := Lib.hid (Own.empty w9 _ (Nat.le_refl _))
  have HRT : Hid (Rd ((w9.alloc (.cells #[] 5)).drew) (some ⟨g8, 0, none⟩) (P.take M1)) := Lib.hid (rd_take (HRP.out.later (S := []) ((Fr.refl [] w9).alloc _).drew (by simp)) M1)
  clear HO8 HO9
  go_wp2_with fail
  go_region_law (first
    | (refine step_app _ rfl (.tmp 31) (.tmp 36) 22 rfl w9.heap.size i0 Try.underlying22 hi hz0 hz1 hz2 (.slice (some ⟨w9.heap.size, 0, none⟩) 0 0) [] 0 rfl (by simp [Act.eval]) HOE.out (some ⟨g8, 0, none⟩) M1 c8 (P.take M1) (by simp [Act.eval]) HT1.out HRT.out (by simp) (by omega) (by simp) ?_; intro AA cA wA hoA hfA _; have HOA : Hid (Own wA w9.heap.size (.slice AA M1 cA) (P.take M1)) := Lib.hid (by have h := hoA; rw [List.nil_append, Nat.zero_add] at h; exact h); have HFA : Hid (Fr [] w9 wA) := Lib.hid ((((Fr.refl [] w9).alloc _).drew).trans hfA (by simp [Value.ownBlock])); have hsA := HFA.out.size; have HRA := Lib.hid (HRd5.out.later HFA.out (by simp)); clear hoA hfA)
    | (refine step_app _ rfl (.tmp 37) (.tmp 39) 22 rfl w9.heap.size i0 Try.underlying22 hi hz0 hz1 hz2 (.slice AA M1 cA) (P.take M1) M1 HT1.out (by simp [Act.eval]) HOA.out (some ⟨g9, 5, none⟩) (L2 - 5) (c9 - 5) (Q.drop 5) (by simp [Act.eval]) HD5.out HRA.out (by simp) (by omega) hsA ?_; intro AB cB wB hoB hfB _; have HOB := Lib.hid hoB; have HFB : Hid (Fr [] w9 wB) := Lib.hid (HFA.out.trans hfB (fun k hk => .inr (HOA.out.lt k (by simpa using hk)).1)); clear hoB hfB))
  have HLm : Hid ((P.take M1 ++ Q.drop 5).length = M1 + (L2 - 5)) := Lib.hid (by rw [List.length_append, HT1.out, HD5.out])
  have HRB := Lib.hid HOB.out.rd
  have HPB := Lib.hid (HRP.out.later HFB.out (by simp))
  have HQB := Lib.hid (HRQ.out.later HFB.out (by simp))
  have HXB := Lib.hid (HX3.out.later ((HF8.out.tr HF9.out).tr HFB.out) (by simp))
  have hm3 : L1 - 3 = M1 := by omega
  rw [hm3] at HAc
  have hy1 : ((recsOf za).foldl layD x).length ≤ 16777216 := by rw [HLa.out]; exact HRa.out
  have HAb1 := Lib.hid (HAb.out _ hy1)
  have hy2 : n1 ≤ ((recsOf zb).foldl layD ((recsOf za).foldl layD x)).length := by
    rw [HLb.out, HLa.out]
    have h1 := reach_ge (reach x.length (recsOf za)) (recsOf zb)
    have h2 := reach_ge x.length (recsOf za)
    have h3 := HM1.out
    omega
  have hy3 : ((recsOf zb).foldl layD ((recsOf za).foldl layD x)).length ≤ 16777216 := by rw [HLb.out]; exact HRb.out _ hy1
  clear HAb HLa HLb HRa HRb HOA HOB HRA HRT HOE HRd5 HT1 HD5 HRP HRQ HX3
  generalize (recsOf zb).foldl layD ((recsOf za).foldl layD x) = y2 at *
  generalize (recsOf za).foldl layD x = y1 at *
  generalize P.take M1 ++ Q.drop 5 = PQ at *
  generalize M1 + (L2 - 5) = L3 at *
  clear m1 m1' m2 m3 m4 m5 m6 hm3 hM1
  go_simp
  go_wp2_with fail
  refine (applyZ wB (some ⟨g8, 0, none⟩) A1 L1 c8 n1 c1 P x _ HAa.out HLP.out HPB.out HM1.out (by omega) HXB.out).mono ?_
  rintro e w5 ⟨A5, c5, rfl, hr5, _, _, _, hf5⟩
  have HR5 := Lib.hid hr5
  have HF5 := Lib.hid hf5
  simp only at HR5
  clear hr5 hf5
  go_wp2_with fail
  refine (applyZ w5 (some ⟨g9, 0, none⟩) A5 L2 c9 y1.length c5 Q y1 _ HAb1.out HLQ.out (HQB.out.later HF5.out (by simp)) rfl (by omega) HR5.out).mono ?_
  rintro e w6 ⟨A6, c6, rfl, hr6, _, _, _, hf6⟩
  have HR6 := Lib.hid hr6
  have HF6 := Lib.hid hf6
  simp only at HR6
  clear hr6 hf6
  go_wp2_with fail
  refine (applyZ w6 AB A1 L3 cB n1 c1 PQ x _ HAc.out HLm.out (HRB.out.later (HF5.out.tr HF6.out) (by simp)) HM1.out (by omega) (HXB.out.later (HF5.out.tr HF6.out) (by simp))).mono ?_
  rintro e w7 ⟨A7, c7, rfl, hr7, _, _, _, hf7⟩
  have HR7 := Lib.hid hr7
  have HF7 := Lib.hid hf7
  simp only at HR7
  clear hr7 hf7
  have hy2' : (n1 : Int) ≤ y2.length := by omega
  go_wp2_with fail
  refine (same_eq w7 A6 A7 _ _ c6 c7 y2 rfl rfl (HR6.out.later HF7.out (by simp)) HR7.out).mono ?_
  rintro e1 w77 ⟨rfl, rfl⟩
  go_wp2
  go_ret
  exact ⟨rfl, ((((((HF3.out.tr HF8.out).tr HF9.out).tr HFB.out).tr HF5.out).tr HF6.out).tr HF7.out).below (by simp) (Nat.le_refl _)⟩

end Ips
end Go.Proofs.Ytcbmkmblfciflaa
