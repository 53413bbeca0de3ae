/-
  picklocklaw03.VarnumOne returns true for every input: bytes that are taken are those that are put; each cut of them is too short. No condition.
-/
import Derived.Test.YthlmodjmdeajiaaShown
import Derived.Test.YthlmodjmdeajiaaOctSame
namespace Go.Proofs.Ythlmodjmdeajiaa
open Go.RowKit
namespace Var

set_option maxRecDepth 100000 in
set_option maxHeartbeats 2000000 in
theorem one_walk (a0 : Option Addr) (cap0 : Nat) (l : List UInt8) (z : Int) (w : World) (hr : Rd w a0 l) (hc : a0 = none → cap0 = 0) (hlc : l.length ≤ cap0) (_hcm : cap0 ≤ maxLen) :
    Calls Try.prog 7 #[.slice a0 l.length cap0, .int .i64 z] w fun e w' => e = .returned (.bool true) ∧ Below w.heap.size w w' := by
  obtain ⟨i0, hi, hz0, hz1, hz2⟩ := info_parts info5
  have HR := Lib.hid hr
  have HC := Lib.hid hc
  have HL := Lib.hid (take_len l 10 (by omega))
  have hcnt : (min (l.length : Int) 10).toNat ≤ 10 := by omega
  unfold maxLen at _hcm
  clear hr hc
  go_enter Try.func7, Try.ntmps7
  go_wp2_with (first
    | (go_at_call 8; refine (shown_any _).mono ?_; rintro e w1 ⟨rfl, hf1⟩; have HF1 := Lib.hid hf1; have hs1 := hf1.size; clear hf1)
    | (at_builtin; refine wpList_app _ rfl (.tmp 14) (.tmp 19) 22 rfl w.heap.size i0 Try.underlying22 hi hz0 hz1 hz2 (.slice (some ⟨w1.heap.size, 0, none⟩) 0 0) [] rfl (Own.empty w1 _ hs1) a0 _ cap0 (l.take (min (l.length : Int) 10).toNat) rfl HL.out (rd_take (HR.out.later (HF1.out.alloc _) (by simp)) _) HC.out (by simp; omega) (by simp; omega) ?_))
  intro A1 c1 w2 ho2 hf2 hl2
  have HF2 : Hid (Fr [] w w2) := (HF1.out.alloc _).trans hf2 (by simp [Value.ownBlock]; omega)
  have HM : Hid ((l.take (min (l.length : Int) 10).toNat).length = (min (l.length : Int) 10).toNat) := HL.out
  obtain ⟨g, rfl⟩ := ho2.some_ hl2
  have HO2 := Lib.hid ho2
  clear ho2 hf2 hl2 HL HR HC hlc hs1
  generalize (min (l.length : Int) 10).toNat = n at *
  generalize l.take n = m at *
  have HR2 := Lib.hid HO2.out.rd
  obtain ⟨hnc1, hnc2⟩ := HO2.out.caps
  obtain ⟨⟨a, b, c⟩, hT⟩ : ∃ T, takeV m = T := ⟨_, rfl⟩
  have HT := Lib.hid hT
  have HT0 : Hid (takeV (m.drop 0) = (a, b, c)) := hT
  have hE := goV_err 0 1 m
  have hK := goV_ok 0 1 m
  have hbl := takeV_le m
  change (takeV m).2.2 = 0 ∨ _ at hE
  change (takeV m).2.2 = 0 → 1 ≤ (takeV m).2.1 ∧ (takeV m).2.1 ≤ m.length ∧ (takeV m).1 ≤ most at hK
  rw [show goV 0 1 m = takeV m from rfl, hT] at hE
  rw [hT] at hK hbl
  rw [HM.out] at hK hbl
  simp only at hE hK hbl
  have HE := Lib.hid hE
  have HK := Lib.hid hK
  clear hT hE hK
  go_wp2_with fail
  refine (newReader_any (some ⟨g, 0, none⟩) n c1 m _ HM.out HR2.out (by omega)).mono ?_
  rintro e w3 ⟨p, rfl, h3, hp3, hf3⟩
  have H3 := Lib.hid h3
  have HF3 : Hid (Fr [] w w3) := HF2.out.tr hf3
  have HR3 := Lib.hid (HR2.out.fr hf3 (by simp))
  have hs2 := HF2.out.size
  have hp : w.heap.size ≤ p := by omega
  have hgp : Hid (g ≠ p) := by
    have := (HO2.out.lt g rfl).2
    show g ≠ p
    omega
  clear h3 hp3 hf3 hs2
  go_wp2_with fail
  refine (take_any w3 p w2.heap.size 0 m H3.out (Nat.zero_le _) (by rw [HM.out]; omega) (a, b, c) HT0.out).mono ?_
  rintro e w4 ⟨rfl, h4, hf4⟩
  have H4 : Hid (Rdr w4 p w2.heap.size m b) := by
    show Rdr w4 p w2.heap.size m b
    simpa using h4
  have HF4 : Hid (Fr [] w w4) := HF3.out.trans hf4 (by simpa using hp)
  have HR4 : Hid (Rd w4 (some ⟨g, 0, none⟩) m) := HR3.out.fr hf4 (by intro ad e; cases e; simpa using hgp.out)
  clear h4 hf4
  go_wp2_with fail
  refine (at_any w4 p w2.heap.size b m H4.out).mono ?_
  rintro e w5 ⟨rfl, rfl⟩
  by_cases hc0 : c = 0
  · subst hc0
    obtain ⟨hb1, hbn, hab⟩ := HK.out rfl
    have hP : putV a = m.take b := by
      have := takeV_one m (by rw [HT.out])
      rw [HT.out] at this
      exact this
    have ha' : ¬ (4294967296 : Int) < (a : Int) := by unfold most at hab; omega
    have hb1' : ¬ (b : Int) < 1 := by omega
    have hbn' : ¬ (n : Int) < (b : Int) := by omega
    obtain ⟨d, hd, hdb⟩ := place_of z ((b : Int) - 1) (by omega)
    have hd' : (bits .and .i64 z 65535).tmod (b : Int) = (d : Int) := by rw [← hd]; congr 1; omega
    have hcut : takeV ((m.take d).drop 0) = (0, 0, 2) := takeV_cut m d (by rw [HT.out]) (by rw [HT.out]; show d < b; omega)
    have HCUT := Lib.hid hcut
    have HP := Lib.hid hP
    have hb0 : ¬ (b : Int) = 0 := by omega
    have hdc : (d : Int) ≤ c1 := by omega
    have hbc : (b : Int) ≤ c1 := by omega
    have HLD : Hid ((m.take d).length = d) := by
      show (m.take d).length = d
      rw [List.length_take, HM.out]
      omega
    have HLB : Hid ((m.take b).length = b) := by
      show (m.take b).length = b
      rw [List.length_take, HM.out]
      omega
    clear hd hcut hP
    go_wp2_with fail
    refine (newReader_any (some ⟨g, 0, none⟩) d c1 (m.take d) w4 HLD.out (rd_take HR4.out d) (by omega)).mono ?_
    rintro e w5 ⟨q, rfl, h5, hq5, hf5⟩
    have H5 := Lib.hid h5
    have HF5 : Hid (Fr [] w w5) := HF4.out.tr hf5
    have HR5 := Lib.hid (HR4.out.fr hf5 (by simp))
    have hs4 := HF4.out.size
    have hq : w.heap.size ≤ q := by omega
    have hgq : Hid (g ≠ q) := by
      obtain ⟨_, _, e1, h1⟩ := HR4.out (by rw [HM.out]; omega)
      cases e1
      have h2 := World.block_lt_of_cell? w4 _ (h1 0 (by rw [HM.out]; omega))
      show g ≠ q
      simp at h2
      omega
    clear h5 hf5 hq5 hs4
    go_wp2_with fail
    refine (take_any w5 q w4.heap.size 0 (m.take d) H5.out (Nat.zero_le _) (by rw [HLD.out]; omega) (0, 0, 2) HCUT.out).mono ?_
    rintro e w6 ⟨rfl, h6, hf6⟩
    have HF6 : Hid (Fr [] w w6) := HF5.out.trans hf6 (by simpa using hq)
    have HR6 : Hid (Rd w6 (some ⟨g, 0, none⟩) (m.take b)) := rd_take (HR5.out.fr hf6 (by intro ad e; cases e; simpa using hgq.out)) b
    have C1 : Hid (∀ w', Fr [] w6 w' → Calls Try.prog 13 #[.int .u64 (a : Int)] w' fun e w'' => ∃ g5, e = .returned (.slice (some ⟨g5, 0, none⟩) b b) ∧ w'.heap.size ≤ g5 ∧ Blk w'' g5 5 (bv (m.take b)).toArray ∧ Fr [] w' w'') := by
      intro w' _
      have := put_any w' a hab
      rw [HP.out, HLB.out] at this
      exact this
    have C2 : Hid (∀ w' g5, Fr [] w6 w' → Blk w' g5 5 (bv (m.take b)).toArray → Calls Try.prog 14 #[.slice (some ⟨g5, 0, none⟩) b b, .slice (some ⟨g, 0, none⟩) b c1] w' fun e w'' => e = .returned (.bool true) ∧ w' = w'') := by
      intro w' g5 hf hb
      exact same_eq w' _ _ b b b c1 (m.take b) HLB.out HLB.out (rd_blk hb) (HR6.out.fr hf (by simp))
    have C3 : Hid (∀ w', Fr [] w6 w' → Calls Try.prog 12 #[.pointer (some ⟨q, 0, none⟩)] w' fun e w'' => e = .returned (.int .i64 0) ∧ w' = w'') := by
      intro w' hf
      exact at_any w' q w4.heap.size 0 (m.take d) (h6.fr hf (by simp) (by simp))
    clear h6 hf6
    go_wp2_with fail
    go_region_held3 (fun w' => Fr [] w6 w') (first | exact (Fr.refl [] w6).drew | exact Fr.tr (by assumption) HF7.out | assumption)
      (first
      | (go_at_call 13; refine (C1.out _ (by assumption)).mono ?_; rintro e w7 ⟨g5, rfl, _, hb7, hf7⟩; have HF7 := Lib.hid hf7; have HB7 := Lib.hid hb7; clear hf7 hb7)
      | (go_at_call 14; refine (C2.out _ _ (by assumption) HB7.out).mono ?_; rintro e w8 ⟨rfl, rfl⟩)
      | (go_at_call 12; refine (C3.out _ (by assumption)).mono ?_; rintro e w9 ⟨rfl, rfl⟩))
    have HF8 : Hid (Fr [] w6 w7) := by assumption
    go_wp2
    go_ret
    exact ⟨rfl, (HF6.out.tr HF8.out).below (by simp) (Nat.le_refl _)⟩
  · rcases HE.out.resolve_left hc0 with h | h
    · cases h
      go_wp2
      go_ret
      exact ⟨rfl, HF4.out.below (by simp) (Nat.le_refl _)⟩
    · cases h
      go_wp2
      go_ret
      exact ⟨rfl, HF4.out.below (by simp) (Nat.le_refl _)⟩

end Var
end Go.Proofs.Ythlmodjmdeajiaa
