/-
  picklocklaw12.GbmapEnables returns true for every input. No condition.
-/
import Derived.Test.YtglnpgdigdfjiaaGmShown
import Derived.Test.YtglnpgdigdfjiaaGmBits
namespace Go.Proofs.Ytglnpgdigdfjiaa
open Go.RowKit
namespace Gm

/-- The state behind writes below 2000. -/
def se (K B : Int) (on : Bool) : St := ⟨K, on, 1, 0, 0, B, 8192⟩
theorem se_ok (K B : Int) (on : Bool) (h : K = 0 ∨ K = 1 ∨ K = 3 ∨ K = 5) (hb : 2 ≤ B) (hb' : B ≤ 65) : Ok (se K B on) :=
  ⟨h, ⟨by simp only [se]; omega, by simp only [se]; omega⟩, ⟨by simp only [se]; omega, by simp only [se]; omega⟩, .inl rfl, ⟨hb, by simp only [se]; omega⟩, ⟨by simp only [se]; omega, by simp only [se]; omega⟩⟩
theorem se_ram (K B x : Int) (h0 : 0 ≤ x) (h1 : x < 8192) : ramOf (se K B true) (40960 + x) = x := by
  have hr : rbank (se K B true) = 0 := by unfold rbank se; split <;> rfl
  unfold ramOf
  rw [if_neg (by simp [se]; omega), hr]
  simp only [se]
  omega
theorem se_off (K B x : Int) : ramOf (se K B false) x = -1 := by
  unfold ramOf
  rw [if_pos (.inr (.inr (.inl rfl)))]
theorem se_wr (K B : Int) (on : Bool) (X v : Int) (hX : X < 8192) : wr (se K B on) X v = se K B (if K = 0 then on else v % 16 == 10) := by
  unfold wr
  by_cases hk : K = 0
  · rw [if_pos (.inl hk), if_pos hk]
  · rw [if_neg (by simp only [se]; omega), if_pos hX, if_neg hk]
    rfl
theorem cart_se (kd rom : Int) : cartS kd rom 2 = se (kindN (bits .and .i64 kd 3)) (bankN rom) (kindN (bits .and .i64 kd 3) == 0) := by
  have h : ramN (bits .and .i64 2 7) = 8192 := by decide
  unfold cartS new se
  rw [h]

set_option maxRecDepth 100000 in
set_option maxHeartbeats 4000000 in
theorem enables_walk (kd rom ram : Int) (A : Option Addr) (c : Nat) (l : List UInt8) (a : Int) (w : World) (hr : Rd w A l) (_h0 : A = none → c = 0) (_hc : l.length ≤ c) (_hm : c ≤ maxLen) (ha : u16 a) :
    Calls Try.prog 6 #[.agg #[.int .i64 kd, .int .i64 rom, .int .i64 ram], .slice A l.length c, .int .u16 a] w fun e w' => e = .returned (.bool true) ∧ Below w.heap.size w w' := by
  have HRd := Lib.hid hr
  have HAu := Lib.hid ha
  obtain ⟨ha0, ha1⟩ := ha
  obtain ⟨n, hn⟩ : ∃ n, l.length = n := ⟨_, rfl⟩
  have HL := Lib.hid hn
  rw [hn]
  obtain ⟨A13, hA13⟩ : ∃ y, bits .and .u16 a 8191 = y := ⟨_, rfl⟩
  have hx1 := and13 a HAu.out
  rw [hA13] at hx1
  obtain ⟨AR, hAR⟩ : ∃ y, bits .or .u16 40960 A13 = y := ⟨_, rfl⟩
  have hx2 := orA A13 (by omega) (by omega)
  rw [hAR] at hx2
  have hx3 := and13 AR ⟨by omega, by omega⟩
  have hx4 : bits .and .u16 AR 8191 = A13 := by rw [hx3]; omega
  have hA0 : 0 ≤ A13 := by omega
  have hA1 : A13 < 8192 := by omega
  have hAR0 : 0 ≤ AR := by omega
  have hAR1 : AR < 65536 := by omega
  have HAR := Lib.hid hx2
  obtain ⟨z, hzz⟩ : ∃ z, w.heap.size = z := ⟨_, rfl⟩
  have hbx := Blk.fresh w 23 #[.int .i64 kd, .int .i64 rom, .int .i64 ram]
  have hfx : Fr [] w (w.alloc (.cells #[.int .i64 kd, .int .i64 rom, .int .i64 ram] 23)) := (Fr.refl [] w).alloc _
  rw [hzz] at hbx
  have HB := Lib.hid hbx
  have HF := Lib.hid hfx
  have HZ := Lib.hid (Nat.le_of_eq hzz)
  clear hr hn hbx hfx hx1 hx2 hx3 ha0 ha1
  go_enter Try.func6, Try.ntmps6
  go_upto_region 1 with fail
  clear hzz
  generalize w.alloc _ = w0 at *
  go_wp2_with fail
  (with_reducible refine (shown12 w0).mono ?_)
  rintro e w1 ⟨rfl, hf1⟩
  have HF1 := Lib.hid (HF.out.tr hf1)
  have HB1 := Lib.hid (HB.out.fr hf1 (by simp))
  have c2 := HB1.out.cell 2
  have f2 := HB1.out.frozen 2
  simp at c2
  clear hf1 HF HB
  have hb1 : Blk (w1.setCell ⟨z, 2, none⟩ (.int .i64 2)) z 23 #[.int .i64 kd, .int .i64 rom, .int .i64 2] := HB1.out.put 2 (.int .i64 2)
  have HB1 := Lib.hid hb1
  have HF1 : Hid (Fr [] w (w1.setCell ⟨z, 2, none⟩ (.int .i64 2))) := Lib.hid (HF1.out.setCell (.inr HZ.out) _)
  clear hb1
  go_upto_region 3 with fail
  generalize w1.setCell _ _ = w1 at *
  clear c2 f2
  have c0 := HB1.out.cell 0
  have c1 := HB1.out.cell 1
  have c2 := HB1.out.cell 2
  simp at c0 c1 c2
  go_wp2_with fail
  (with_reducible refine (made_any w1 kd rom 2).mono ?_)
  rintro e w2 ⟨p, q, rfl, hp, hrf, hf2, hg1, hg2⟩
  rw [cart_se] at hp hrf
  have hk := kindN_of (bits .and .i64 kd 3)
  have hb := bankN_bd rom
  generalize kindN (bits .and .i64 kd 3) = K at *
  generalize bankN rom = B at *
  have HP := Lib.hid hp
  have HR := Lib.hid hrf
  have HF2 : Hid (Fr [] w w2) := Lib.hid (HF1.out.tr hf2)
  have HG : Hid (w.heap.size ≤ p) := Lib.hid (Nat.le_trans HF1.out.size hg1)
  have HNe : Hid (p ≠ q) := Lib.hid (hp.other hrf)
  have HOK := Lib.hid fun on => se_ok K B on hk hb.1 hb.2
  have HSR : Hid (ramOf (se K B true) AR = A13) := Lib.hid (by rw [HAR.out]; exact se_ram K B A13 hA0 hA1)
  have HSO : Hid (ramOf (se K B false) AR = -1) := Lib.hid (se_off K B AR)
  have d0 : w2.cell? ⟨q, 0, none⟩ = some (.int .i64 K) := Blk.cell hrf 0
  have HQ0 : Hid (∀ W, Fr [p] w2 W → W.cell? ⟨q, 0, none⟩ = some (.int .i64 K)) := Lib.hid fun W hW => hW.cell d0 (by simp; exact fun e => HNe.out e.symm)
  have HON : Hid (K = 0 → (K == 0) = true) := Lib.hid fun h => by simp [h]
  clear hp hrf hf2 hg1 hg2 c0 c1 c2 HF1 HB1 hk hb
  by_cases hK : K = 0
  · subst hK
    go_wp2_with fail
    go_loopw [10, 11] (fun s10 s11 wr => ∃ (i : Nat) (on : Bool), s10 = .bool on ∧ s11 = .int .i64 (i : Int) ∧ i ≤ n ∧ ProgAt wr p (se 0 B on) ∧ on = true ∧ Fr [p] w2 wr) (fun _ s11 _ => n - (intOf s11).toNat)
    case atStart => exact ⟨0, ((0 : Int) == 0), by first | rfl | simp, rfl, Nat.zero_le _, HP.out, (by decide), Fr.refl _ _⟩
    case round =>
      obtain ⟨i, on, rfl, rfl, hin, hp, hon, hf⟩ := hrel
      have HPr := Lib.hid hp
      have HOn := Lib.hid hon
      have HFr := Lib.hid hf
      have hi0 : (0 : Int) ≤ i := by omega
      clear hp hon hf
      rcases (show (i < n ∧ i < 30) ∨ (¬ i < n) ∨ (i < n ∧ ¬ i < 30) by omega) with ⟨h1, h2⟩ | h1 | ⟨h1, h2⟩
      · have h1' : (i : Int) < n := by omega
        have h2' : (i : Int) < 30 := by omega
        obtain ⟨X0, hX0⟩ : ∃ y : Int, (i : Int) * 300 = y := ⟨_, rfl⟩
        obtain ⟨X, hX⟩ : ∃ y, X0 % 8192 = y := ⟨_, rfl⟩
        have hX' : X0.tmod 8192 = X := by rw [Int.tmod_eq_emod_of_nonneg (by omega)]; exact hX
        have hXa : 0 ≤ X := by omega
        have hXb : X < 8192 := by omega
        have hXc : IntKind.u16.wrap X = X := by rw [IntKind.wrap_u16]; omega
        have hX00 : 0 ≤ X0 := by omega
        have hX01 : X0 < 10000 := by omega
        obtain ⟨b, o, e1, hc⟩ := (HRd.out.later (HF2.out.nil.tr HFr.out) (by simp; exact HG.out)) (by rw [HL.out]; omega)
        have q2 := hc i (by rw [HL.out]; exact h1)
        subst e1
        obtain ⟨v, hv⟩ : ∃ v : Int, ((l[i]'(by rw [HL.out]; exact h1)).toNat : Int) = v := ⟨_, rfl⟩
        have hvb : byte v := ⟨by omega, by have := (l[i]'(by rw [HL.out]; exact h1)).toNat_lt; omega⟩
        rw [hv] at q2
        have HV := Lib.hid hvb
        obtain ⟨hv0, hv1⟩ := hvb
        obtain ⟨r, hr16⟩ : ∃ r, v % 16 = r := ⟨_, rfl⟩
        have hr16' : v.tmod 16 = r := by rw [Int.tmod_eq_emod_of_nonneg hv0]; exact hr16
        have hr0 : 0 ≤ r := by omega
        have hr1 : r < 16 := by omega
        have HQ2 : Hid (∀ W, Fr [p] wr W → W.cell? ⟨b, o + i, none⟩ = some (.int .u8 v)) := Lib.hid fun W hW => hW.cell q2 (by
          intro hm
          simp at hm
          subst hm
          obtain ⟨b2, o2, e2, hc2⟩ := HRd.out (by rw [HL.out]; omega)
          cases e2
          have h4 := World.block_lt_of_cell? w _ (hc2 0 (by rw [HL.out]; omega))
          exact absurd HG.out (by simpa using h4))
        have HW := Lib.hid (se_wr 0 B on X v hXb)
        rw [hr16] at HW
        clear hc hv hX hr16
        have HPn : Hid (∀ k, ProgAt (wr.drewN k) p (se 0 B on)) := Lib.hid fun k => HPr.out.fr ((Fr.refl [] wr).drewN k) (by simp)
        have HFn : Hid (∀ k, Fr [p] wr (wr.drewN k)) := Lib.hid fun k => (Fr.refl [p] wr).drewN k
        cases on
        · exact absurd (HOn.out) (by decide)
        · skip
          go_wp2_with fail
          (with_reducible refine (pram_any wr p (se 0 B true) AR HPr.out (HOK.out _) hAR0 hAR1).mono ?_)
          rintro e w3 ⟨rfl, n1, rfl⟩
          rw [HSR.out]
          have HPw := Lib.hid (HPn.out (n1))
          have HFw := Lib.hid (HFn.out (n1))
          clear HPn HFn HPr
          generalize wr.drewN _ = w4 at *
          have q3 := HQ2.out w4 HFw.out
          go_wp2_with fail
          (with_reducible refine (pwrite_any w4 p (se 0 B true) X v HPw.out (HOK.out _) hXa (by omega) HV.out).mono ?_)
          rintro e w5 ⟨rfl, hp5, hf5⟩
          rw [HW.out] at hp5
          have HP5 := Lib.hid hp5
          have HF5 := Lib.hid (HFr.out.tr (HFw.out.tr hf5))
          have q4 := HQ2.out w5 (HFw.out.tr hf5)
          have q5 := HQ0.out w5 HF5.out
          clear hp5 hf5 q3 q2 HPw HFw HW HQ2 HFr
          go_wp2
          go_roundw
          case rel => exact ⟨i + 1, true, by first | rfl | simp, by go_num, by omega, (by have := HP5.out; simpa using this), rfl, HF5.out⟩
          case measure => simp [intOf]; omega
      all_goals
        obtain ⟨w5, rfl⟩ : ∃ x, x = wr := ⟨_, rfl⟩
        have HFw : Hid (Fr [p] w w5) := Lib.hid (HF2.out.nil.tr HFr.out)
        obtain rfl : on = true := HOn.out
        all_goals
          go_wp2_with fail
          (with_reducible refine (pram_any w5 p (se 0 B _) AR HPr.out (HOK.out _) hAR0 hAR1).mono ?_)
          rintro e w6 ⟨rfl, n1, rfl⟩
          first | rw [HSR.out] | rw [HSO.out]
          go_wp2
          go_ret
          exact ⟨by simp, (HFw.out.drewN _).below (by simp; exact HG.out) (Nat.le_refl _)⟩
  · have hKb : (K == 0) = false := by rw [beq_eq_false_iff_ne]; exact hK
    have HKn := Lib.hid hK
    rw [hKb] at HP
    clear hK
    go_wp2_with fail
    go_loopw [10, 11] (fun s10 s11 wr => ∃ (i : Nat) (on : Bool), s10 = .bool on ∧ s11 = .int .i64 (i : Int) ∧ i ≤ n ∧ ProgAt wr p (se K B on) ∧ (K = 0 → on = true) ∧ Fr [p] w2 wr) (fun _ s11 _ => n - (intOf s11).toNat)
    case atStart => exact ⟨0, false, by first | rfl | simp, rfl, Nat.zero_le _, HP.out, fun h => absurd h HKn.out, Fr.refl _ _⟩
    case round =>
      obtain ⟨i, on, rfl, rfl, hin, hp, hon, hf⟩ := hrel
      have HPr := Lib.hid hp
      have HOn := Lib.hid hon
      have HFr := Lib.hid hf
      have hi0 : (0 : Int) ≤ i := by omega
      clear hp hon hf
      rcases (show (i < n ∧ i < 30) ∨ (¬ i < n) ∨ (i < n ∧ ¬ i < 30) by omega) with ⟨h1, h2⟩ | h1 | ⟨h1, h2⟩
      · have h1' : (i : Int) < n := by omega
        have h2' : (i : Int) < 30 := by omega
        obtain ⟨X0, hX0⟩ : ∃ y : Int, (i : Int) * 300 = y := ⟨_, rfl⟩
        obtain ⟨X, hX⟩ : ∃ y, X0 % 8192 = y := ⟨_, rfl⟩
        have hX' : X0.tmod 8192 = X := by rw [Int.tmod_eq_emod_of_nonneg (by omega)]; exact hX
        have hXa : 0 ≤ X := by omega
        have hXb : X < 8192 := by omega
        have hXc : IntKind.u16.wrap X = X := by rw [IntKind.wrap_u16]; omega
        have hX00 : 0 ≤ X0 := by omega
        have hX01 : X0 < 10000 := by omega
        obtain ⟨b, o, e1, hc⟩ := (HRd.out.later (HF2.out.nil.tr HFr.out) (by simp; exact HG.out)) (by rw [HL.out]; omega)
        have q2 := hc i (by rw [HL.out]; exact h1)
        subst e1
        obtain ⟨v, hv⟩ : ∃ v : Int, ((l[i]'(by rw [HL.out]; exact h1)).toNat : Int) = v := ⟨_, rfl⟩
        have hvb : byte v := ⟨by omega, by have := (l[i]'(by rw [HL.out]; exact h1)).toNat_lt; omega⟩
        rw [hv] at q2
        have HV := Lib.hid hvb
        obtain ⟨hv0, hv1⟩ := hvb
        obtain ⟨r, hr16⟩ : ∃ r, v % 16 = r := ⟨_, rfl⟩
        have hr16' : v.tmod 16 = r := by rw [Int.tmod_eq_emod_of_nonneg hv0]; exact hr16
        have hr0 : 0 ≤ r := by omega
        have hr1 : r < 16 := by omega
        have HQ2 : Hid (∀ W, Fr [p] wr W → W.cell? ⟨b, o + i, none⟩ = some (.int .u8 v)) := Lib.hid fun W hW => hW.cell q2 (by
          intro hm
          simp at hm
          subst hm
          obtain ⟨b2, o2, e2, hc2⟩ := HRd.out (by rw [HL.out]; omega)
          cases e2
          have h4 := World.block_lt_of_cell? w _ (hc2 0 (by rw [HL.out]; omega))
          exact absurd HG.out (by simpa using h4))
        have HW := Lib.hid (se_wr K B on X v hXb)
        rw [hr16] at HW
        clear hc hv hX hr16
        have HPn : Hid (∀ k, ProgAt (wr.drewN k) p (se K B on)) := Lib.hid fun k => HPr.out.fr ((Fr.refl [] wr).drewN k) (by simp)
        have HFn : Hid (∀ k, Fr [p] wr (wr.drewN k)) := Lib.hid fun k => (Fr.refl [p] wr).drewN k
        cases on
        · skip
          go_wp2_with fail
          (with_reducible refine (pram_any wr p (se K B false) AR HPr.out (HOK.out _) hAR0 hAR1).mono ?_)
          rintro e w3 ⟨rfl, n1, rfl⟩
          rw [HSO.out]
          go_wp2_with fail
          (with_reducible refine (pram_any _ p (se K B false) AR (HPn.out _) (HOK.out _) hAR0 hAR1).mono ?_)
          rintro e w3 ⟨rfl, n2, rfl⟩
          rw [HSO.out, World.drewN_drewN]
          have HPw := Lib.hid (HPn.out (n1 + n2))
          have HFw := Lib.hid (HFn.out (n1 + n2))
          clear HPn HFn HPr
          generalize wr.drewN _ = w4 at *
          have q3 := HQ2.out w4 HFw.out
          go_wp2_with fail
          (with_reducible refine (pwrite_any w4 p (se K B false) X v HPw.out (HOK.out _) hXa (by omega) HV.out).mono ?_)
          rintro e w5 ⟨rfl, hp5, hf5⟩
          rw [HW.out] at hp5
          have HP5 := Lib.hid hp5
          have HF5 := Lib.hid (HFr.out.tr (HFw.out.tr hf5))
          have q4 := HQ2.out w5 (HFw.out.tr hf5)
          have q5 := HQ0.out w5 HF5.out
          clear hp5 hf5 q3 q2 HPw HFw HW HQ2 HFr
          have HP6 : Hid (ProgAt w5 p (se K B (r == 10))) := Lib.hid (by have := HP5.out; rwa [if_neg HKn.out] at this)
          clear HP5
          go_wp2
          go_roundw
          case rel => exact ⟨i + 1, (r == 10), by first | rfl | simp, by go_num, by omega, HP6.out, fun h => absurd h HKn.out, HF5.out⟩
          case measure => simp [intOf]; omega
        · skip
          go_wp2_with fail
          (with_reducible refine (pram_any wr p (se K B true) AR HPr.out (HOK.out _) hAR0 hAR1).mono ?_)
          rintro e w3 ⟨rfl, n1, rfl⟩
          rw [HSR.out]
          have HPw := Lib.hid (HPn.out (n1))
          have HFw := Lib.hid (HFn.out (n1))
          clear HPn HFn HPr
          generalize wr.drewN _ = w4 at *
          have q3 := HQ2.out w4 HFw.out
          go_wp2_with fail
          (with_reducible refine (pwrite_any w4 p (se K B true) X v HPw.out (HOK.out _) hXa (by omega) HV.out).mono ?_)
          rintro e w5 ⟨rfl, hp5, hf5⟩
          rw [HW.out] at hp5
          have HP5 := Lib.hid hp5
          have HF5 := Lib.hid (HFr.out.tr (HFw.out.tr hf5))
          have q4 := HQ2.out w5 (HFw.out.tr hf5)
          have q5 := HQ0.out w5 HF5.out
          clear hp5 hf5 q3 q2 HPw HFw HW HQ2 HFr
          have HP6 : Hid (ProgAt w5 p (se K B (r == 10))) := Lib.hid (by have := HP5.out; rwa [if_neg HKn.out] at this)
          clear HP5
          go_wp2
          go_roundw
          case rel => exact ⟨i + 1, (r == 10), by first | rfl | simp, by go_num, by omega, HP6.out, fun h => absurd h HKn.out, HF5.out⟩
          case measure => simp [intOf]; omega
      all_goals
        obtain ⟨w5, rfl⟩ : ∃ x, x = wr := ⟨_, rfl⟩
        have HFw : Hid (Fr [p] w w5) := Lib.hid (HF2.out.nil.tr HFr.out)
        cases on
        all_goals
          go_wp2_with fail
          (with_reducible refine (pram_any w5 p (se K B _) AR HPr.out (HOK.out _) hAR0 hAR1).mono ?_)
          rintro e w6 ⟨rfl, n1, rfl⟩
          first | rw [HSR.out] | rw [HSO.out]
          go_wp2
          go_ret
          exact ⟨by simp, (HFw.out.drewN _).below (by simp; exact HG.out) (Nat.le_refl _)⟩

end Gm
end Go.Proofs.Ytglnpgdigdfjiaa
