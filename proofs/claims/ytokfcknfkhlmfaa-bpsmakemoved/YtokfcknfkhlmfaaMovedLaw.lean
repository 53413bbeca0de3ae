/-
  picklocklaw08.BpsmakeMoved returns true for every input: what is put together of parts of the input is made of it again, and the other way round. No condition.
-/
import Derived.Test.YtokfcknfkhlmfaaM3
import Derived.Test.YtokfcknfkhlmfaaM9
import Derived.Test.YtokfcknfkhlmfaaOctSame
import Derived.Deep.DeepCutAuto
namespace Go.Proofs.Ytokfcknfkhlmfaa
open Go.RowKit
namespace Bm

set_option maxRecDepth 100000 in
set_option maxHeartbeats 4000000 in
theorem moved_walk (a0 : Option Addr) (cap0 : Nat) (l : List UInt8) (a1 : Option Addr) (n1 cap1 : Nat) (w : World) (hr : Rd w a0 l) (hc : a0 = none → cap0 = 0) (hlc : l.length ≤ cap0) (_hcm : cap0 ≤ maxLen) (hp : TwoIn w a1 n1) (_hlc1 : n1 ≤ cap1) (_hcm1 : cap1 ≤ maxLen) :
    Calls Try.prog 6 #[.slice a0 l.length cap0, .slice a1 n1 cap1] w fun e w' => e = .returned (.bool true) ∧ Below w.heap.size w w' := by
  obtain ⟨i0, hi, hz0, hz1, hz2⟩ := info_parts info5
  have HR := Lib.hid hr
  have HC := Lib.hid hc
  have HP := Lib.hid hp
  have HL := Lib.hid (take_len l 2000 (by omega))
  have hcnt : (min (l.length : Int) 2000).toNat ≤ 2000 := by omega
  unfold maxLen at _hcm _hcm1
  clear hr hc hp
  go_enter Try.func6, Try.ntmps6
  go_wp2_with (first
    | (go_at_call 7; refine (shown8 _).mono ?_; rintro e w1 ⟨rfl, hf1⟩; have HF1 := Lib.hid hf1; have hs1 := hf1.size; clear hf1)
    | (at_builtin; refine wpList_app _ rfl (.tmp 18) (.tmp 23) 22 rfl w.heap.size i0 Try.underlying22 hi hz0 hz1 hz2 (.slice (some ⟨w1.heap.size, 0, none⟩) 0 0) [] rfl (Own.empty w1 _ hs1) a0 _ cap0 (l.take (min (l.length : Int) 2000).toNat) rfl HL.out (rd_take (HR.out.later (HF1.out.alloc _) (by simp)) _) HC.out (by simp; omega) (by simp; omega) ?_))
  intro A1 c1 w2 ho2 hf2 hlies
  obtain ⟨g1, rfl⟩ := ho2.some_ hlies
  have HF2 : Hid (Fr [] w w2) := Lib.hid ((HF1.out.alloc _).trans hf2 (by simp [Value.ownBlock]; omega))
  have HM1 : Hid ((l.take (min (l.length : Int) 2000).toNat).length = (min (l.length : Int) 2000).toNat) := HL.out
  have HX : Hid (Rd w2 (some ⟨g1, 0, none⟩) (l.take (min (l.length : Int) 2000).toNat)) := Lib.hid ho2.rd
  obtain ⟨hna1, hna2⟩ := ho2.caps
  have HCm : Hid (c1 ≤ maxLen) := Lib.hid (own_max ho2)
  clear ho2 hf2 HR HC HL hlc hs1 hlies HF1
  generalize (min (l.length : Int) 2000).toNat = n0 at *
  generalize l.take n0 = x at *
  go_wp2_with fail
  go_loopw [6, 7] (fun s6 s7 wr => ∃ (i n c : Nat) (B : Option Addr) (bs : List UInt8), s6 = .slice B n c ∧ s7 = .int .i64 (i : Int) ∧ i ≤ 6 ∧ bs.length = n ∧ n ≤ i * 2000 ∧ Own wr w2.heap.size (.slice B n c) bs ∧ Fr [] w2 wr) (fun _ s7 _ => 6 - (intOf s7).toNat)
  case atStart => exact ⟨0, 0, 0, none, [], rfl, rfl, by omega, rfl, by omega, Own.none_ _ _, Fr.refl _ _⟩
  case round =>
    obtain ⟨i, n, c, B, bs, rfl, rfl, hi6, hbs, hn, ho, hf⟩ := hrel
    have HBs := Lib.hid hbs
    have HO := Lib.hid ho
    have HF := Lib.hid hf
    have hsz := hf.size
    obtain ⟨hnc, hnm⟩ := ho.caps
    clear hbs ho hf
    by_cases hlt : i < n1 ∧ i < 6
    · obtain ⟨hlt1, hlt6⟩ := hlt
      have t1 : (i : Int) < n1 := by omega
      have t6 : (i : Int) < 6 := by omega
      have t0 : (0 : Int) ≤ i := by omega
      obtain ⟨b, o, rfl, hcell⟩ := HP.out (by omega)
      obtain ⟨z0, z1, cz0, cz1⟩ := hcell i hlt1
      have HFw : Hid (Fr [] w wr) := Lib.hid (HF2.out.tr HF.out)
      have cz0 := HFw.out.cell cz0 (by simp)
      have cz1 := HFw.out.cell cz1 (by simp)
      obtain ⟨p, hp1, hp2⟩ := place_of z0 (n0 : Int) (by omega)
      obtain ⟨q, hq1, hq2⟩ := place_of z1 ((n0 : Int) - p) (by omega)
      obtain ⟨t, ht⟩ : ∃ t, p + q = t := ⟨_, rfl⟩
      have ht1 : (p : Int) + (q : Int) = (t : Int) := by omega
      have ht2 : (p : Int) ≤ t := by omega
      have ht3 : (t : Int) ≤ c1 := by omega
      have ht4 : p ≤ c1 := by omega
      have ht5 : t - p = q := by omega
      have ht6 : (0 : Int) ≤ p := by omega
      have ht7 : t ≤ c1 := by omega
      have ht8 : p ≤ t := by omega
      have ht9 : (p : Int) ≤ c1 := by omega
      obtain ⟨k0, hk0⟩ : ∃ k0, n0 + 1 = k0 := ⟨_, rfl⟩
      have hk1 : (n0 : Int) + 1 = (k0 : Int) := by omega
      have hk2 : IntKind.i64.wrap (k0 : Int) = (k0 : Int) := by rw [IntKind.wrap_i64]; omega
      have hk3 : ¬ (k0 : Int) = 0 := by omega
      obtain ⟨d, hd⟩ : ∃ d, n0 - p = d := ⟨_, rfl⟩
      have hd1 : (n0 : Int) - (p : Int) = (d : Int) := by omega
      have hd2 : IntKind.i64.wrap (d : Int) = (d : Int) := by rw [IntKind.wrap_i64]; omega
      obtain ⟨e, he⟩ : ∃ e, d + 1 = e := ⟨_, rfl⟩
      have he1 : (d : Int) + 1 = (e : Int) := by omega
      have he2 : IntKind.i64.wrap (e : Int) = (e : Int) := by rw [IntKind.wrap_i64]; omega
      have he3 : ¬ (e : Int) = 0 := by omega
      rw [hk1] at hp1
      rw [hd1, he1] at hq1
      have hp3 : IntKind.i64.wrap (p : Int) = (p : Int) := by rw [IntKind.wrap_i64]; omega
      have hq3 : IntKind.i64.wrap (q : Int) = (q : Int) := by rw [IntKind.wrap_i64]; omega
      have ht10 : IntKind.i64.wrap (t : Int) = (t : Int) := by rw [IntKind.wrap_i64]; omega
      generalize hA2 : (if c1 = p then some (⟨g1, 0, none⟩ : Addr) else some ⟨g1, p, none⟩) = A2
      have HA2n : Hid (A2 = none → c1 - p = 0) := Lib.hid (by rw [← hA2]; split <;> simp)
      have HRp : Hid (Rd wr A2 ((x.drop p).take q)) := Lib.hid (by
        rw [← hA2]
        exact cut_rd (HX.out.later HF.out (by simp)) (by rw [HM1.out]; omega) (by rw [HM1.out]; omega))
      have HLq : Hid (((x.drop p).take q).length = q) := Lib.hid (by rw [List.length_take, List.length_drop, HM1.out]; omega)
      have Ht := Lib.hid ht
      clear hcell ht hd he hk0
      go_wp2_with (at_builtin; refine wpList_appN _ rfl (.tmp 45) (.tmp 62) 22 rfl w2.heap.size i0 Try.underlying22 hi hz0 hz1 hz2 (.slice B n c) bs n HBs.out rfl HO.out A2 q (c1 - p) ((x.drop p).take q) rfl HLq.out HRp.out HA2n.out (by omega) hsz ?_)
      intro A' c' w4 ho4 hf4 _
      have HO4 := Lib.hid ho4
      have HF4 : Hid (Fr [] w2 w4) := Lib.hid (HF.out.trans hf4 (by intro k hk; exact .inr (HO.out.lt k (by simpa using hk)).1))
      have Hn : Hid (n + q ≤ (i + 1) * 2000) := Lib.hid (by omega)
      clear ho4 hf4
      go_wp2
      go_roundw
      case rel => exact ⟨i + 1, n + q, c', A', bs ++ (x.drop p).take q, rfl, by go_num, by omega, by rw [List.length_append, HBs.out, HLq.out], Hn.out, HO4.out, HF4.out⟩
      case measure => simp [intOf]; omega
    · have hn12 : n ≤ 12000 := by omega
      have HX4 := Lib.hid (HX.out.later HF.out (by simp))
      have HBm : Hid (c ≤ maxLen) := Lib.hid (own_max HO.out)
      have HBn : Hid (B = none → c = 0) := Lib.hid (by rcases HO.out.form0 with ⟨_, _, h⟩ | ⟨g, h⟩; exact fun _ => h; exact fun e => by rw [h] at e; cases e)
      have HRB : Hid (Rd wr B bs) := Lib.hid HO.out.rd
      have HF3 : Hid (Fr [] w wr) := Lib.hid (HF2.out.tr HF.out)
      have hdec : (¬ (i : Int) < n1) ∨ ((i : Int) < n1 ∧ ¬ (i : Int) < 6) := by omega
      rcases hdec with e1 | ⟨e1, e6⟩
      all_goals
        clear HX HF2 HO HP hsz hi6 hlt hn HF
        go_wp2_with fail
        refine (create_any _ (some ⟨g1, 0, none⟩) B none c1 c 0 n0 n 0 x bs [] HM1.out HBs.out rfl hna1 hnc (by omega) (by omega) (by omega) HX4.out HRB.out (rd_nil _) (fun _ => rfl)).mono ?_
        rintro e w5 ⟨σ, R, m, hR, hu, hm, rfl, hRl, hb5, hf5⟩
        have HRu := Lib.hid hR
        have Hu := Lib.hid hu
        have Hm := Lib.hid hm
        have HP5 := Lib.hid (rd_blk hb5)
        have HX5 := Lib.hid (HX4.out.later hf5 (by simp))
        have HB5 := Lib.hid (HRB.out.later hf5 (by simp))
        have HF5 := Lib.hid (HF3.out.tr hf5)
        clear hR hu hm hRl hb5 hf5 HX4 HRB HF3
        go_wp2_with fail
        refine (apply_made w5 R (some ⟨g1, 0, none⟩) m n0 c1 x bs [] σ HRu.out Hu.out (by rw [HM1.out]; omega) (by rw [HBs.out]; omega) (by simp) Hm.out HP5.out HM1.out HX5.out (by simp) hna1 HCm.out).mono ?_
        rintro e w6 ⟨A6, c6, rfl, ho6, hf6⟩
        simp only at ho6 ⊢
        rw [HBs.out] at ho6 ⊢
        have HO6 : Hid (Rd w6 A6 bs) := Lib.hid ho6.rd
        have HX6 := Lib.hid (HX5.out.later hf6 (by simp))
        have HB6 := Lib.hid (HB5.out.later hf6 (by simp))
        have HF6 := Lib.hid (HF5.out.tr hf6)
        clear ho6 hf6 HX5 HB5 HF5 HP5 HRu Hu Hm
        go_wp2_with fail
        refine (create_any w6 B (some ⟨g1, 0, none⟩) none c c1 0 n n0 0 bs x [] HBs.out HM1.out rfl hnc hna1 (by omega) (by omega) (by omega) HB6.out HX6.out (rd_nil _) (fun _ => rfl)).mono ?_
        rintro e w7 ⟨σ', R', m', hR, hu, hm, rfl, hRl, hb7, hf7⟩
        have HRu := Lib.hid hR
        have Hu := Lib.hid hu
        have Hm := Lib.hid hm
        have HP7 := Lib.hid (rd_blk hb7)
        have HX7 := Lib.hid (HX6.out.later hf7 (by simp))
        have HB7 := Lib.hid (HB6.out.later hf7 (by simp))
        have HO7 := Lib.hid (HO6.out.later hf7 (by simp))
        have HF7 := Lib.hid (HF6.out.tr hf7)
        clear hR hu hm hRl hb7 hf7 HX6 HB6 HO6 HF6
        go_wp2_with fail
        refine (apply_made w7 R' B m' n c bs x [] σ' HRu.out Hu.out (by rw [HBs.out]; omega) (by rw [HM1.out]; omega) (by simp) Hm.out HP7.out HBs.out HB7.out HBn.out hnc HBm.out).mono ?_
        rintro e w8 ⟨A8, c8, rfl, ho8, hf8⟩
        simp only at ho8 ⊢
        rw [HM1.out] at ho8 ⊢
        have HO8 : Hid (Rd w8 A8 x) := Lib.hid ho8.rd
        have HX8 := Lib.hid (HX7.out.later hf8 (by simp))
        have HB8 := Lib.hid (HB7.out.later hf8 (by simp))
        have HQ8 := Lib.hid (HO7.out.later hf8 (by simp))
        have HF8 := Lib.hid (HF7.out.tr hf8)
        clear ho8 hf8 HX7 HB7 HO7 HF7 HP7 HRu Hu Hm
        have HS1 : Hid (∀ W, Fr [] w8 W → Calls Try.prog 12 #[.slice A6 n c6, .slice B n c] W fun e w' => e = .returned (.bool true) ∧ w' = W) := Lib.hid fun W hW => (same_eq W A6 B n n c6 c bs HBs.out HBs.out (HQ8.out.later hW (by simp)) (HB8.out.later hW (by simp))).mono fun e w' ⟨h1, h2⟩ => ⟨h1, h2.symm⟩
        have HS2 : Hid (∀ W, Fr [] w8 W → Calls Try.prog 12 #[.slice A8 n0 c8, .slice (some ⟨g1, 0, none⟩) n0 c1] W fun e w' => e = .returned (.bool true) ∧ w' = W) := Lib.hid fun W hW => (same_eq W A8 (some ⟨g1, 0, none⟩) n0 n0 c8 c1 x HM1.out HM1.out (HO8.out.later hW (by simp)) (HX8.out.later hW (by simp))).mono fun e w' ⟨h1, h2⟩ => ⟨h1, h2.symm⟩
        go_wp2_with fail
        refine (HS1.out w8 (Fr.refl _ _)).mono ?_
        rintro e w9 ⟨rfl, rfl⟩
        go_wp2_with fail
        refine (HS2.out _ (Fr.refl _ _)).mono ?_
        rintro e w9 ⟨rfl, rfl⟩
        go_wp2
        go_ret
        exact ⟨by rfl, HF8.out.below (by simp) (Nat.le_refl _)⟩

end Bm
end Go.Proofs.Ytokfcknfkhlmfaa
