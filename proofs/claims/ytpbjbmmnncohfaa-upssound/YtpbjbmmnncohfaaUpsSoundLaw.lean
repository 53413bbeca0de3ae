/-
  picklocklaw06.UpsSound returns true for every input: what is made has the size and the sum that the patch tells of it; of any other input nothing is made; of both files themselves there is always something. No condition.
-/
import Derived.Test.YtpbjbmmnncohfaaUpsBackLaw
import Derived.Deep.DeepCutAuto
namespace Go.Proofs.Ytpbjbmmnncohfaa
open Go.RowKit
namespace Ups

/-- What Apply leaves, as the law asks for it: F, G say whether x is taken for the input, for the output. -/
def Sound (w : World) (a b x : List UInt8) (F G : Bool) (e : Ending) (w' : World) : Prop :=
  Fr [] w w' ∧ ((F = false ∧ G = false ∧ e = .returned (.tuple #[.slice none 0 0, .int .i64 4])) ∨
    ((F = true ∨ G = true) ∧ e = .returned (.tuple #[.slice none 0 0, .int .i64 5]) ∧ x ≠ a ∧ (F = true ∨ x ≠ b)) ∨
    (F = true ∧ ∃ g l, e = .returned (.tuple #[.slice (some ⟨g, 0, none⟩) b.length b.length, .int .i64 0]) ∧ l.length = b.length ∧ Blk w' g 5 (bv l).toArray ∧ sum l = sum b) ∨
    (F = false ∧ G = true ∧ ∃ g l, e = .returned (.tuple #[.slice (some ⟨g, 0, none⟩) a.length a.length, .int .i64 0]) ∧ l.length = a.length ∧ Blk w' g 5 (bv l).toArray ∧ sum l = sum a))

theorem sound_of {w w' : World} {a b x : List UInt8} {e : Ending} (h : Applied w a b x e w') : Sound w a b x (decide (meas x = meas a)) (decide (meas x = meas b)) e w' := by
  obtain ⟨h1, h2, h3⟩ := h
  by_cases hF : meas x = meas a
  · rw [decide_eq_true hF]
    obtain ⟨hf, hO⟩ := h1 hF
    refine ⟨hf, ?_⟩
    rcases hO with ⟨rfl, hn⟩ | ⟨g, rfl, hb, -, hs⟩
    · refine .inr (.inl ⟨.inl rfl, rfl, ?_, .inl rfl⟩)
      rintro rfl
      have := dforth x b
      exact hn ⟨congrArg sum this.1, this.2⟩
    · exact .inr (.inr (.inl ⟨rfl, g, _, rfl, madeL_length _ _ _, hb, hs⟩))
  · rw [decide_eq_false hF]
    by_cases hG : meas x = meas b
    · rw [decide_eq_true hG]
      obtain ⟨hf, hO⟩ := h2 hF hG
      refine ⟨hf, ?_⟩
      rcases hO with ⟨rfl, hn⟩ | ⟨g, rfl, hb, -, hs⟩
      · refine .inr (.inl ⟨.inr rfl, rfl, ?_, .inr ?_⟩)
        · rintro rfl; exact hF rfl
        · rintro rfl
          have := dback a x
          exact hn ⟨congrArg sum this.1, this.2⟩
      · exact .inr (.inr (.inr ⟨rfl, rfl, g, _, rfl, madeL_length _ _ _, hb, hs⟩))
    · rw [decide_eq_false hG]
      obtain ⟨rfl, hf⟩ := h3 hF hG
      exact ⟨hf, .inl ⟨rfl, rfl, rfl⟩⟩

set_option maxRecDepth 100000 in
set_option maxHeartbeats 4000000 in
theorem sound_walk (a0 : Option Addr) (cap0 : Nat) (l : List UInt8) (a1 : Option Addr) (cap1 : Nat) (k : List UInt8) (a2 : Option Addr) (cap2 : Nat) (j : List UInt8) (w : World) (hr : Rd w a0 l) (hc : a0 = none → cap0 = 0) (hlc : l.length ≤ cap0) (_hcm : cap0 ≤ maxLen) (hr1 : Rd w a1 k) (hc1 : a1 = none → cap1 = 0) (hlc1 : k.length ≤ cap1) (_hcm1 : cap1 ≤ maxLen) (hr2 : Rd w a2 j) (hc2 : a2 = none → cap2 = 0) (hlc2 : j.length ≤ cap2) (_hcm2 : cap2 ≤ maxLen) :
    Calls Try.prog 5 #[.slice a0 l.length cap0, .slice a1 k.length cap1, .slice a2 j.length cap2] w fun e w' => e = .returned (.bool true) ∧ Below w.heap.size w w' := by
  obtain ⟨i0, hi, hz0, hz1, hz2⟩ := info_parts info5
  have HR := Lib.hid hr
  have HC := Lib.hid hc
  have HR1 := Lib.hid hr1
  have HC1 := Lib.hid hc1
  have HR2 := Lib.hid hr2
  have HC2 := Lib.hid hc2
  have HL := Lib.hid (take_len l 2000 (by omega))
  have HL1 := Lib.hid (take_len k 2000 (by omega))
  have HL2 := Lib.hid (take_len j 2000 (by omega))
  have hcnt : (min (l.length : Int) 2000).toNat ≤ 2000 := by omega
  have hcnt1 : (min (k.length : Int) 2000).toNat ≤ 2000 := by omega
  have hcnt2 : (min (j.length : Int) 2000).toNat ≤ 2000 := by omega
  unfold maxLen at _hcm _hcm1 _hcm2
  clear hr hc hr1 hc1 hr2 hc2
  go_enter Try.func5, Try.ntmps5
  go_wp2_with (first
    | (go_at_call 7; refine (shown6 _).mono ?_; rintro e w1 ⟨rfl, hf1⟩; have HF1 := Lib.hid hf1; have hs1 := hf1.size; clear hf1)
    | (at_builtin; refine wpList_app _ rfl (.tmp 17) (.tmp 22) 22 rfl w.heap.size i0 Try.underlying22 hi hz0 hz1 hz2 (.slice (some ⟨w1.heap.size, 0, none⟩) 0 0) [] rfl (Own.empty w1 _ hs1) a0 _ cap0 (l.take (min (l.length : Int) 2000).toNat) rfl HL.out (rd_take (HR.out.later (HF1.out.alloc _) (by simp)) _) HC.out (by simp; omega) (by simp; omega) ?_))
  intro A1 c1 w2 ho2 hf2 hlies
  have HF2 : Hid (Fr [] w w2) := Lib.hid ((HF1.out.alloc _).trans hf2 (by simp [Value.ownBlock]; omega))
  have HM1 : Hid ((l.take (min (l.length : Int) 2000).toNat).length = (min (l.length : Int) 2000).toNat) := HL.out
  have HX : Hid (Rd w2 A1 (l.take (min (l.length : Int) 2000).toNat)) := Lib.hid ho2.rd
  have hs2 := HF2.out.size
  clear ho2 hf2 HR HC HL hlc hs1 hlies
  generalize (min (l.length : Int) 2000).toNat = n1 at *
  generalize l.take n1 = a at *
  go_wp2_with (at_builtin; refine wpList_app _ rfl (.tmp 24) (.tmp 29) 22 rfl w.heap.size i0 Try.underlying22 hi hz0 hz1 hz2 (.slice (some ⟨w2.heap.size, 0, none⟩) 0 0) [] rfl (Own.empty w2 _ hs2) a1 _ cap1 (k.take (min (k.length : Int) 2000).toNat) rfl HL1.out (rd_take (HR1.out.later (HF2.out.alloc _) (by simp)) _) HC1.out (by simp; omega) (by simp; omega) ?_)
  intro A2 c2 w3 ho3 hf3 hlies
  have HF3' : Hid (Fr [] w2 w3) := Lib.hid (((Fr.refl [] w2).alloc _).trans hf3 (by simp [Value.ownBlock]))
  have HF3 : Hid (Fr [] w w3) := Lib.hid (HF2.out.tr HF3'.out)
  have HM2 : Hid ((k.take (min (k.length : Int) 2000).toNat).length = (min (k.length : Int) 2000).toNat) := HL1.out
  have HY3 : Hid (Rd w3 A2 (k.take (min (k.length : Int) 2000).toNat)) := Lib.hid ho3.rd
  have HX3 := Lib.hid (HX.out.later HF3'.out (by simp))
  have hs3 := HF3.out.size
  clear ho3 hf3 HR1 HC1 HL1 hlc1 hs2 hlies HX HF3'
  generalize (min (k.length : Int) 2000).toNat = n2 at *
  generalize k.take n2 = b at *
  go_wp2_with (at_builtin; refine wpList_app _ rfl (.tmp 31) (.tmp 36) 22 rfl w.heap.size i0 Try.underlying22 hi hz0 hz1 hz2 (.slice (some ⟨w3.heap.size, 0, none⟩) 0 0) [] rfl (Own.empty w3 _ hs3) a2 _ cap2 (j.take (min (j.length : Int) 2000).toNat) rfl HL2.out (rd_take (HR2.out.later (HF3.out.alloc _) (by simp)) _) HC2.out (by simp; omega) (by simp; omega) ?_)
  intro A3 c3 w4 ho4 hf4 hlies
  have HF4' : Hid (Fr [] w3 w4) := Lib.hid (((Fr.refl [] w3).alloc _).trans hf4 (by simp [Value.ownBlock]))
  have HF4 : Hid (Fr [] w w4) := Lib.hid (HF3.out.tr HF4'.out)
  have HM3 : Hid ((j.take (min (j.length : Int) 2000).toNat).length = (min (j.length : Int) 2000).toNat) := HL2.out
  have HZ4 : Hid (Rd w4 A3 (j.take (min (j.length : Int) 2000).toNat)) := Lib.hid ho4.rd
  have HX4 := Lib.hid (HX3.out.later HF4'.out (by simp))
  have HY4 := Lib.hid (HY3.out.later HF4'.out (by simp))
  clear ho4 hf4 HR2 HC2 HL2 hlc2 hs3 hlies HX3 HY3 HF4'
  generalize (min (j.length : Int) 2000).toNat = n3 at *
  generalize j.take n3 = x at *
  go_wp2_with fail
  refine (create_any w4 A1 A2 n1 c1 n2 c2 a b HM1.out HM2.out HX4.out HY4.out (by omega) (by omega)).mono ?_
  rintro e w5 ⟨g, rfl, hg5, hb5, hf5⟩
  have HR5 := Lib.hid (rd_blk hb5)
  have HF5 := Lib.hid (HF4.out.tr hf5)
  have hps := patch_small a b (by rw [HM1.out]; exact hcnt) (by rw [HM2.out]; exact hcnt1)
  obtain ⟨L, hL⟩ : ∃ L, (patch a b).length = L := ⟨_, rfl⟩
  rw [hL] at hps ⊢
  have HLp := Lib.hid hL
  have HX5 := Lib.hid (HX4.out.later hf5 (by simp))
  have HY5 := Lib.hid (HY4.out.later hf5 (by simp))
  have HZ5 := Lib.hid (HZ4.out.later hf5 (by simp))
  clear hg5 hb5 hf5 hL HX4 HY4 HZ4
  have HAp : Hid (Calls Try.prog 11 #[.slice (some ⟨g, 0, none⟩) L L, .slice A3 n3 c3] w5 (Sound w5 a b x (decide (meas x = meas a)) (decide (meas x = meas b)))) := Lib.hid ((apply_made w5 (some ⟨g, 0, none⟩) A3 L L n3 c3 a b x HLp.out HR5.out (Nat.le_refl _) (by unfold maxLen; omega) (by omega) (by rw [HM1.out]; omega) (by rw [HM2.out]; omega) HM3.out HZ5.out (by omega)).mono fun _ _ h => sound_of h)
  obtain ⟨s1, hs1⟩ : ∃ s1, Crc.next 0#32 a = s1 := ⟨_, rfl⟩
  obtain ⟨s2, hs2⟩ : ∃ s2, Crc.next 0#32 b = s2 := ⟨_, rfl⟩
  obtain ⟨s3, hs3⟩ : ∃ s3, Crc.next 0#32 x = s3 := ⟨_, rfl⟩
  have HS1 := Lib.hid hs1
  have HS2 := Lib.hid hs2
  have HS3 := Lib.hid hs3
  have HDF : Hid (decide (meas x = meas a) = decide (n3 = n1 ∧ s3 = s1)) := Lib.hid (by
    apply decide_eq_decide.2
    unfold meas sum
    rw [HM1.out, HM3.out, hs1, hs3, Prod.mk.injEq])
  have HDG : Hid (decide (meas x = meas b) = decide (n3 = n2 ∧ s3 = s2)) := Lib.hid (by
    apply decide_eq_decide.2
    unfold meas sum
    rw [HM2.out, HM3.out, hs2, hs3, Prod.mk.injEq])
  rw [HDF.out, HDG.out] at HAp
  obtain ⟨F, hF⟩ : ∃ F, decide (n3 = n1 ∧ s3 = s1) = F := ⟨_, rfl⟩
  obtain ⟨G, hG⟩ : ∃ G, decide (n3 = n2 ∧ s3 = s2) = G := ⟨_, rfl⟩
  rw [hF, hG] at HAp
  have HFd := Lib.hid hF
  have HGd := Lib.hid hG
  clear hs1 hs2 hs3 HDF HDG hF hG
  go_wp2_with fail
  refine HAp.out.mono ?_
  rintro e w6 ⟨hf6, hO⟩
  rw [HM1.out, HM2.out] at hO
  have HF6 := Lib.hid (HF5.out.tr hf6)
  have HX6 := Lib.hid (HX5.out.later hf6 (by simp))
  have HY6 := Lib.hid (HY5.out.later hf6 (by simp))
  have HZ6 := Lib.hid (HZ5.out.later hf6 (by simp))
  clear hf6 HAp HX5 HY5 HZ5
  obtain ⟨v, z, hv⟩ : ∃ v z, e = .returned (.tuple #[v, .int .i64 z]) := by
    rcases hO with ⟨-, -, h⟩ | ⟨-, h, -, -⟩ | ⟨-, g, l, h, -⟩ | ⟨-, -, g, l, h, -⟩ <;> exact ⟨_, _, h⟩
  subst hv
  have HO := Lib.hid hO
  clear hO
  go_wp2_with fail
  refine (Crc.rsum_any w6 A1 n1 c1 a HM1.out HX6.out (by omega)).mono ?_
  rintro e w7 ⟨rfl, rfl⟩
  rw [HS1.out]
  go_wp2_with fail
  refine (Crc.rsum_any w6 A2 n2 c2 b HM2.out HY6.out (by omega)).mono ?_
  rintro e w7 ⟨rfl, rfl⟩
  rw [HS2.out]
  have HSx := Lib.hid (Crc.rsum_any w6 A3 n3 c3 x HM3.out HZ6.out (by omega))
  rw [HS3.out] at HSx
  go_upto_region 11 with fail
  go_cut [14] (fun s14 wx => s14 = .bool F ∧ w6 = wx)
  case first =>
    by_cases h1 : n3 = n1
    · subst h1
      by_cases h2 : s3 = s1
      · subst h2
        go_wp2_with fail
        refine HSx.out.mono ?_
        rintro e w7 ⟨rfl, rfl⟩
        go_wp2_with fail
        go_meet
        exact ⟨by rw [← HFd.out]; simp, rfl⟩
      · have h3 : (Crc.u s3 == Crc.u s1) = false := by simp; exact fun h => h2 (Crc.u_inj h)
        go_wp2_with fail
        refine HSx.out.mono ?_
        rintro e w7 ⟨rfl, rfl⟩
        go_wp2_with fail
        go_meet
        exact ⟨by rw [← HFd.out]; simp [h2], rfl⟩
    · have h3 : ((n3 : Int) == (n1 : Int)) = false := by simp; omega
      go_wp2_with fail
      go_meet
      exact ⟨by rw [← HFd.out]; simp [h1], rfl⟩
  case rest =>
    obtain ⟨rfl, rfl⟩ := hcut
    go_upto_region 12 with fail
    go_cut [15] (fun s15 wx => s15 = .bool G ∧ w6 = wx)
    case first =>
      by_cases h1 : n3 = n2
      · subst h1
        by_cases h2 : s3 = s2
        · subst h2
          go_wp2_with fail
          refine HSx.out.mono ?_
          rintro e w7 ⟨rfl, rfl⟩
          go_wp2_with fail
          go_meet
          exact ⟨by rw [← HGd.out]; simp, rfl⟩
        · have h3 : (Crc.u s3 == Crc.u s2) = false := by simp; exact fun h => h2 (Crc.u_inj h)
          go_wp2_with fail
          refine HSx.out.mono ?_
          rintro e w7 ⟨rfl, rfl⟩
          go_wp2_with fail
          go_meet
          exact ⟨by rw [← HGd.out]; simp [h2], rfl⟩
      · have h3 : ((n3 : Int) == (n2 : Int)) = false := by simp; omega
        go_wp2_with fail
        go_meet
        exact ⟨by rw [← HGd.out]; simp [h1], rfl⟩
    case rest =>
      obtain ⟨rfl, rfl⟩ := hcut
      clear HSx HFd HGd
      rcases HO.out with ⟨rfl, rfl, h⟩ | ⟨hFG, h, hxa, hxb⟩ | ⟨rfl, g2, l2, h, hl2, hb2, hs2⟩ | ⟨rfl, rfl, g2, l2, h, hl2, hb2, hs2⟩
      · simp at h
        obtain ⟨rfl, rfl⟩ := h
        clear HO
        go_wp2
        go_ret
        exact ⟨rfl, HF6.out.below (by simp) (Nat.le_refl _)⟩
      · simp at h
        obtain ⟨rfl, rfl⟩ := h
        have hne : (x == a) = false := by simpa using hxa
        have HSa := Lib.hid (same_any w6 A3 A1 n3 n1 c3 c1 x a HM3.out HM1.out HZ6.out HX6.out)
        rw [hne] at HSa
        clear HO hxa hne
        cases F with
        | true =>
          clear hFG hxb
          go_wp2_with fail
          refine HSa.out.mono ?_
          rintro e w7 ⟨rfl, rfl⟩
          go_wp2
          go_ret
          exact ⟨rfl, HF6.out.below (by simp) (Nat.le_refl _)⟩
        | false =>
          obtain rfl : G = true := by simpa using hFG
          have hne : (x == b) = false := by simpa using hxb
          have HSb := Lib.hid (same_any w6 A3 A2 n3 n2 c3 c2 x b HM3.out HM2.out HZ6.out HY6.out)
          rw [hne] at HSb
          clear hFG hxb hne
          go_wp2_with fail
          refine HSa.out.mono ?_
          rintro e w7 ⟨rfl, rfl⟩
          go_wp2_with fail
          refine HSb.out.mono ?_
          rintro e w7 ⟨rfl, rfl⟩
          go_wp2
          go_ret
          exact ⟨rfl, HF6.out.below (by simp) (Nat.le_refl _)⟩
      · simp at h
        obtain ⟨rfl, rfl⟩ := h
        have HSl := Lib.hid (Crc.rsum_any w6 (some ⟨g2, 0, none⟩) n2 n2 l2 hl2 (rd_blk hb2) (by omega))
        unfold sum at hs2
        rw [hs2, HS2.out] at HSl
        clear HO hb2 hs2 hl2
        go_wp2_with fail
        refine HSl.out.mono ?_
        rintro e w7 ⟨rfl, rfl⟩
        go_wp2
        go_ret
        exact ⟨rfl, HF6.out.below (by simp) (Nat.le_refl _)⟩
      · simp at h
        obtain ⟨rfl, rfl⟩ := h
        have HSl := Lib.hid (Crc.rsum_any w6 (some ⟨g2, 0, none⟩) n1 n1 l2 hl2 (rd_blk hb2) (by omega))
        unfold sum at hs2
        rw [hs2, HS1.out] at HSl
        clear HO hb2 hs2 hl2
        go_wp2_with fail
        refine HSl.out.mono ?_
        rintro e w7 ⟨rfl, rfl⟩
        go_wp2
        go_ret
        exact ⟨rfl, HF6.out.below (by simp) (Nat.le_refl _)⟩

end Ups
end Go.Proofs.Ytpbjbmmnncohfaa
