/-
  picklocklaw01.OctetReads returns true for every input: what is read is what the document says. No condition.
-/
import Derived.Test.YtgmngkhjjimelaaRef3
namespace Go.Proofs.Ytgmngkhjjimelaa
open Go.RowKit

/-- Both readers stand at place p of the bytes m; nothing but their two blocks has turned since w4. -/
def Both (w4 : World) (B q g2 s g n c : Nat) (m : List UInt8) (p : Nat) (wr : World) : Prop := Rdr wr q g2 m p ∧ RefR wr B s g n c m p ∧ Fr [q, s] w4 wr

theorem Both.one {w4 wr w5 : World} {B q g2 s g n c p p' : Nat} {m : List UInt8} (h : Both w4 B q g2 s g n c m p wr) (_hr : Rdr w5 q g2 m p') (hf : Fr [q] wr w5) : RefR w5 B s g n c m p := by
  refine h.2.1.fr hf ?_ ?_
  · have := h.2.1.1.other h.1.1 (by decide)
    simpa using this
  · have := h.2.1.2.1.other h.1.1 (by decide)
    simpa [Value.ownBlock] using this

theorem Both.two {w4 wr w5 w6 : World} {B q g2 s g n c p p' : Nat} {m : List UInt8} (h : Both w4 B q g2 s g n c m p wr) (hr : Rdr w5 q g2 m p') (hf : Fr [q] wr w5) (hx : RefR w5 B s g n c m p) (hx' : RefR w6 B s g n c m p') (hf' : Fr [s] w5 w6) : Both w4 B q g2 s g n c m p' w6 := by
  refine ⟨hr.fr hf' ?_ ?_, hx', (h.2.2.trans hf (by simp)).trans hf' (by simp)⟩
  · have := hr.1.other hx.1 (by decide)
    simpa using this
  · have := hr.2.other hx.1 (by decide)
    simpa using this

theorem rd_single {w : World} {A : Option Addr} {x : UInt8} (h : Rd w A [x]) : ∃ b o, A = some ⟨b, o, none⟩ ∧ w.cell? ⟨b, o, none⟩ = some (.int .u8 (x.toNat : Int)) := by
  obtain ⟨b, o, rfl, hc⟩ := h (by simp)
  exact ⟨b, o, rfl, by simpa using hc 0 (by simp)⟩

theorem atQ (w : World) (p g k : Nat) (l : List UInt8) (h : Rdr w p g l k) :
    Calls Try.prog 17 #[.pointer (some ⟨p, 0, none⟩)] w fun e w' => e = .returned (.int .i64 (k : Int)) ∧ w' = w := (at_any w p g k l h).mono fun _ _ ⟨h1, h2⟩ => ⟨h1, h2.symm⟩

theorem Both.drewN {w4 wr : World} {B q g2 s g n c p : Nat} {m : List UInt8} (h : Both w4 B q g2 s g n c m p wr) (k : Nat) : Both w4 B q g2 s g n c m p (wr.drewN k) :=
  ⟨h.1.fr ((Fr.refl [] _).drewN k) (by simp) (by simp), h.2.1.fr ((Fr.refl [] _).drewN k) (by simp) (by simp), h.2.2.drewN k⟩

set_option maxRecDepth 100000 in
set_option maxHeartbeats 4000000 in
theorem reads_walk (a0 : Option Addr) (cap0 : Nat) (l : List UInt8) (a1 : Option Addr) (cap1 : Nat) (zs : List (Int × Int)) (w : World) (hr : Rd w a0 l) (hc : a0 = none → cap0 = 0) (hlc : l.length ≤ cap0) (_hcm : cap0 ≤ maxLen)
    (hr1 : RdS w a1 zs) (_hlc1 : zs.length ≤ cap1) (_hcm1 : cap1 ≤ maxLen) :
    Calls Try.prog 3 #[.slice a0 l.length cap0, .slice a1 zs.length cap1] w fun e w' => e = .returned (.bool true) ∧ Below w.heap.size w w' := by
  obtain ⟨i0, hi, hz0, hz1, hz2⟩ := info_parts info5
  have HR := Lib.hid hr
  have HC := Lib.hid hc
  have HZ := Lib.hid hr1
  have HL := Lib.hid (take_len l 500 (by omega))
  have hcnt : (min (l.length : Int) 500).toNat ≤ 500 := by omega
  unfold maxLen at _hcm _hcm1
  clear hr hc hr1
  go_enter Try.func3, Try.ntmps3
  go_wp2_with (first
    | (go_at_call 8; refine (shown_any _).mono ?_; rintro e w1 ⟨rfl, hf1⟩; have HF1 := Lib.hid hf1; have hs1 := hf1.size; clear hf1)
    | (at_builtin; refine wpList_app _ rfl (.tmp 26) (.tmp 31) 22 rfl w.heap.size i0 Try.underlying22 hi hz0 hz1 hz2 (.slice (some ⟨w1.heap.size, 0, none⟩) 0 0) [] rfl (Own.empty w1 _ hs1) a0 _ cap0 (l.take (min (l.length : Int) 500).toNat) rfl HL.out (rd_take (HR.out.later (HF1.out.alloc _) (by simp)) _) HC.out (by simp; omega) (by simp; omega) ?_))
  intro A1 c1 w2 ho2 hf2 hlies
  have HA : Hid (A1 ≠ none) := by
    rintro rfl
    rcases hlies with h | ⟨j, h, _⟩ <;> simp [Value.ownBlock] at h
  have HF2 : Hid (Fr [] w w2) := (HF1.out.alloc _).trans hf2 (by simp [Value.ownBlock]; omega)
  have HM : Hid ((l.take (min (l.length : Int) 500).toNat).length = (min (l.length : Int) 500).toNat) := HL.out
  have HO2 := Lib.hid ho2
  have hs2 := HF2.out.size
  clear ho2 hf2 HL HR HC hlc hs1 hlies
  generalize (min (l.length : Int) 500).toNat = n at *
  generalize l.take n = m at *
  obtain ⟨g, rfl⟩ : ∃ g, A1 = some ⟨g, 0, none⟩ := by
    rcases HO2.out.form0 with ⟨h, _⟩ | h
    · exact absurd h HA.out
    · exact h
  have hg := HO2.out.lt g rfl
  clear HA
  go_wp2_with fail
  refine (newReader_any (some ⟨g, 0, none⟩) n c1 m _ HM.out HO2.out.rd (by omega)).mono ?_
  rintro e w3 ⟨q, rfl, hq, hq2, hf3⟩
  have HQ := Lib.hid hq
  have HF3 := Lib.hid hf3
  have hs3 := hf3.size
  have hq3 := hq.1.lt
  have HO3 := Lib.hid (HO2.out.fr hf3 (by simp))
  clear hq hf3
  go_wp2
  have HB0 : Hid (Both (w3.alloc (.cells #[.slice (some ⟨g, 0, none⟩) n c1, .int .i64 0] 29)) w.heap.size q w2.heap.size w3.heap.size g n c1 m 0 (w3.alloc (.cells #[.slice (some ⟨g, 0, none⟩) n c1, .int .i64 0] 29))) :=
    ⟨HQ.out.fr ((Fr.refl [] _).alloc _) (by simp) (by simp), ⟨Blk.fresh _ _ _, HO3.out.fr ((Fr.refl [] _).alloc _) (by simp), HM.out⟩, Fr.refl _ _⟩
  have HW4 : Hid (Fr [] w (w3.alloc (.cells #[.slice (some ⟨g, 0, none⟩) n c1, .int .i64 0] 29))) := (HF2.out.tr HF3.out).alloc _
  have hs0 : w.heap.size ≤ w3.heap.size := by omega
  have hq0 : w.heap.size ≤ q := by omega
  clear HQ HF3 HO3 HO2 HF2 HF1 hq2 hq3 hs3 hs2 hg
  generalize w3.alloc (.cells #[.slice (some ⟨g, 0, none⟩) n c1, .int .i64 0] 29) = w4 at *
  generalize w3.heap.size = s at *
  generalize w2.heap.size = g2 at *
  go_loopw [8] (fun i wr => ∃ k p : Nat, (k ≤ zs.length ∧ k ≤ 50) ∧ p ≤ n ∧ i = .int .i64 k ∧ Both w4 w.heap.size q g2 s g n c1 m p wr) (fun i _ => 50 - (intOf i).toNat)
  case atStart => exact ⟨0, 0, by omega, by omega, rfl, HB0.out⟩
  case round =>
    obtain ⟨k, p, ⟨hkl, hk50⟩, hpn, rfl, hb⟩ := hrel
    have HB := Lib.hid hb
    clear hb
    by_cases hgo : k < zs.length ∧ k < 50
    · obtain ⟨hlt, hlt50⟩ := hgo
      obtain ⟨b, o, rfl, hc⟩ := HZ.out (by omega)
      have hck := hc k hlt
      clear hc
      generalize zs[k] = z at *
      obtain ⟨K, z⟩ := z
      obtain ⟨hcK, hcz⟩ := hck
      have HCK := Lib.hid hcK
      have HCZ := Lib.hid hcz
      have HFR : Hid (Fr [] w wr) := HW4.out.trans HB.out.2.2 (by simp; omega)
      have h0 := HFR.out.cell hcK (by simp)
      have h1 := HFR.out.cell hcz (by simp)
      clear hcK hcz
      rcases (show K = 1 ∨ K = 2 ∨ K = 3 ∨ (K ≠ 1 ∧ K ≠ 2 ∧ K ≠ 3) by omega) with rfl | rfl | rfl | ⟨hK1, hK2, hK3⟩
      · obtain ⟨E, X, p', hp', hc1, hc2⟩ := both_bytes m n p z HM.out (by omega) hpn
        have HC1 := Lib.hid (hc1 wr q g2 HB.out.1)
        have HC2 := Lib.hid hc2
        clear hc1 hc2
        go_wp2_with fail
        refine HC1.out.mono ?_
        rintro e w5 ⟨A, c, rfl, hr5, ha5, h5, hf5⟩
        have H5 := Lib.hid h5
        have HF5 := Lib.hid hf5
        have HX5 := Lib.hid (HB.out.one h5 hf5)
        have hz5 := (HFR.out.trans hf5 (by simp; omega)).cell HCZ.out (by simp)
        have HRX := Lib.hid hr5
        have HAX := Lib.hid ha5
        clear h5 hf5 hr5 ha5
        go_wp2_with fail
        refine (HC2.out w5 _ s g c1 HX5.out).mono ?_
        rintro e w6 ⟨A2, c2, rfl, hr6, hx6, hf6⟩
        have HRX6 : Hid (Rd w6 A X) := HRX.out.fr hf6 (fun ad hA h => by simp at h; have := HAX.out ad hA; have := HB.out.2.1.1.lt; omega)
        have HRY6 := Lib.hid hr6
        clear hr6
        go_wp2_with fail
        refine (same_eq w6 A A2 _ _ c c2 X rfl rfl HRX6.out HRY6.out).mono ?_
        rintro e w7 ⟨rfl, rfl⟩
        have HB6 := Lib.hid (HB.out.two H5.out HF5.out HX5.out hx6 hf6)
        have h2 := HB6.out.2.1.1.cell 1
        simp at h2
        have hne : ((p' : Int) != (p' : Int)) = false := by simp
        clear hx6 hf6
        go_wp2_with fail
        go_quiet (first | (go_at_call 17; exact Calls.quiet_of_same (atQ _ q g2 p' m (HB6.out.drewN _).1)) | (go_at_call 18; exact Calls.quiet_of (leftN _ q g2 p' n m HM.out (HB6.out.drewN _).1 hp' (by omega))))
        go_wp2
        go_roundw
        case rel => exact ⟨k + 1, p', by omega, hp', by go_num, HB6.out.drewN _⟩
        case measure => simp [intOf]; omega
      · obtain ⟨E, u, p', hp', hc1, hc2⟩ := both_high m n p z HM.out (by omega) hpn
        have HC1 := Lib.hid (hc1 wr q g2 HB.out.1)
        have HC2 := Lib.hid hc2
        clear hc1 hc2
        go_wp2_with fail
        refine HC1.out.mono ?_
        rintro e w5 ⟨rfl, h5, hf5⟩
        have H5 := Lib.hid h5
        have HF5 := Lib.hid hf5
        have HX5 := Lib.hid (HB.out.one h5 hf5)
        have hz5 := (HFR.out.trans hf5 (by simp; omega)).cell HCZ.out (by simp)
        clear h5 hf5
        go_wp2_with fail
        refine (HC2.out w5 _ s g c1 HX5.out).mono ?_
        rintro e w6 ⟨rfl, hx6, hf6⟩
        have HB6 := Lib.hid (HB.out.two H5.out HF5.out HX5.out hx6 hf6)
        have h2 := HB6.out.2.1.1.cell 1
        simp at h2
        have hne : ((p' : Int) != (p' : Int)) = false := by simp
        clear hx6 hf6
        go_wp2_with fail
        go_quiet (first | (go_at_call 17; exact Calls.quiet_of_same (atQ _ q g2 p' m (HB6.out.drewN _).1)) | (go_at_call 18; exact Calls.quiet_of (leftN _ q g2 p' n m HM.out (HB6.out.drewN _).1 hp' (by omega))))
        go_wp2
        go_roundw
        case rel => exact ⟨k + 1, p', by omega, hp', by go_num, HB6.out.drewN _⟩
        case measure => simp [intOf]; omega
      · obtain ⟨E, u, p', hp', hc1, hc2⟩ := both_low m n p z HM.out (by omega) hpn
        have HC1 := Lib.hid (hc1 wr q g2 HB.out.1)
        have HC2 := Lib.hid hc2
        clear hc1 hc2
        go_wp2_with fail
        refine HC1.out.mono ?_
        rintro e w5 ⟨rfl, h5, hf5⟩
        have H5 := Lib.hid h5
        have HF5 := Lib.hid hf5
        have HX5 := Lib.hid (HB.out.one h5 hf5)
        have hz5 := (HFR.out.trans hf5 (by simp; omega)).cell HCZ.out (by simp)
        clear h5 hf5
        go_wp2_with fail
        refine (HC2.out w5 _ s g c1 HX5.out).mono ?_
        rintro e w6 ⟨rfl, hx6, hf6⟩
        have HB6 := Lib.hid (HB.out.two H5.out HF5.out HX5.out hx6 hf6)
        have h2 := HB6.out.2.1.1.cell 1
        simp at h2
        have hne : ((p' : Int) != (p' : Int)) = false := by simp
        clear hx6 hf6
        go_wp2_with fail
        go_quiet (first | (go_at_call 17; exact Calls.quiet_of_same (atQ _ q g2 p' m (HB6.out.drewN _).1)) | (go_at_call 18; exact Calls.quiet_of (leftN _ q g2 p' n m HM.out (HB6.out.drewN _).1 hp' (by omega))))
        go_wp2
        go_roundw
        case rel => exact ⟨k + 1, p', by omega, hp', by go_num, HB6.out.drewN _⟩
        case measure => simp [intOf]; omega
      · have b1 : (K == 1) = false := by simpa using hK1
        have b2 : (K == 2) = false := by simpa using hK2
        have b3 : (K == 3) = false := by simpa using hK3
        clear hK1 hK2 hK3
        obtain ⟨E, x, X, p', hp', hE, hc1, hc2⟩ := both_byte m n p HM.out (by omega) hpn
        rcases hE with ⟨rfl, rfl⟩ | ⟨rfl, rfl, rfl⟩
        all_goals
          have HC1 := Lib.hid (hc1 wr q g2 HB.out.1)
          have HC2 := Lib.hid hc2
          clear hc1 hc2
          go_wp2_with fail
          refine HC1.out.mono ?_
          rintro e w5 ⟨rfl, h5, hf5⟩
          have H5 := Lib.hid h5
          have HF5 := Lib.hid hf5
          have HX5 := Lib.hid (HB.out.one h5 hf5)
          clear h5 hf5
          go_wp2_with fail
          refine (HC2.out w5 _ s g c1 HX5.out).mono ?_
          rintro e w6 ⟨A2, c2, rfl, hr6, hx6, hf6⟩
          first
            | (obtain ⟨bb, oo, rfl, hcy⟩ := rd_single hr6; clear hr6)
            | clear hr6
          have HB6 := Lib.hid (HB.out.two H5.out HF5.out HX5.out hx6 hf6)
          have h2 := HB6.out.2.1.1.cell 1
          simp at h2
          have hne : ((p' : Int) != (p' : Int)) = false := by simp
          clear hx6 hf6
          go_wp2_with fail
          go_quiet (first | (go_at_call 17; exact Calls.quiet_of_same (atQ _ q g2 p' m (HB6.out.drewN _).1)) | (go_at_call 18; exact Calls.quiet_of (leftN _ q g2 p' n m HM.out (HB6.out.drewN _).1 hp' (by omega))))
          go_wp2
          go_roundw
          case rel => exact ⟨k + 1, p', by omega, hp', by go_num, HB6.out.drewN _⟩
          case measure => simp [intOf]; omega
    · rcases (show (k < zs.length ∧ ¬ k < 50) ∨ ¬ k < zs.length by omega) with ⟨hlt, h50⟩ | hlt
      all_goals
        go_wp2
        go_ret
        exact ⟨rfl, (HW4.out.trans HB.out.2.2 (by simp; omega)).below (by simp) (Nat.le_refl _)⟩

end Go.Proofs.Ytgmngkhjjimelaa
