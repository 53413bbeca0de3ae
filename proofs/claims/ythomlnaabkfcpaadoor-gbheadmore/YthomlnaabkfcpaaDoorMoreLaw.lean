/-
  picklocklaw10.GbheadMore returns true for every input. Condition: the table of RAM's sizes holds what its text lays.
-/
import Derived.Test.YthomlnaabkfcpaaDoorGbShown
namespace Go.Proofs.YthomlnaabkfcpaaDoor
open Go.RowKit
namespace Gb

theorem file_more (w : World) (a c : UInt8) : Calls Tryd.prog 9 #[.int .i64 32768, .int .u8 (a.toNat : Int), .agg #[.int .u8 (a.toNat : Int), .int .u8 0, .int .u8 (c.toNat : Int)]] w (Filed w 32768 a 0 c) := file_any w 32768 a a 0 c (by decide)
/-- Of a file with a head and the right sum, ROM is told whole, or there is an error. -/
theorem more_rom (l : List UInt8) (hl : l.length = 32768) (h0 : bt l 328 = 0) : (fault l = 0 ∧ (ctOf l).rom.length = 32768) ∨ (fault l ≠ 0 ∧ (ctOf l).rom.length = 0) := by
  by_cases hf : fault l = 0
  · refine .inl ⟨hf, ?_⟩
    unfold ctOf cartOf
    rw [if_pos hf, h0]
    have : romN 0 = 32768 := rfl
    rw [this, List.length_take, hl, Nat.min_self]
  · refine .inr ⟨hf, ?_⟩
    unfold ctOf
    rw [if_neg hf]
    rfl

set_option maxRecDepth 100000 in
set_option maxHeartbeats 4000000 in
theorem more_walk (a b c : UInt8) (A : Option Addr) (cap : Nat) (x : List UInt8) (w : World) (hT : Tab w) (hr : Rd w A x) (hc : A = none → cap = 0) (hlc : x.length ≤ cap) (_hcm : cap ≤ maxLen) :
    Calls Tryd.prog 7 #[.agg #[.int .u8 (a.toNat : Int), .int .u8 (b.toNat : Int), .int .u8 (c.toNat : Int)], .slice A x.length cap] w fun e w' => e = .returned (.bool true) ∧ Below w.heap.size w w' := by
  obtain ⟨i0, hi, hz0, hz1, hz2⟩ := info_parts info5
  have HT := Lib.hid hT
  have HR := Lib.hid hr
  have HC := Lib.hid hc
  have HL := Lib.hid (take_len x 1000 (by omega))
  have hcnt : (min (x.length : Int) 1000).toNat ≤ 1000 := by omega
  have HFl := Lib.hid (fun W => file_more W a c)
  unfold maxLen at _hcm
  obtain ⟨z, hz⟩ : ∃ z, w.heap.size = z := ⟨_, rfl⟩
  have hb0 := Blk.fresh w 22 #[.int .u8 (a.toNat : Int), .int .u8 (b.toNat : Int), .int .u8 (c.toNat : Int)]
  have hal : Fr [] w (w.alloc (.cells #[.int .u8 (a.toNat : Int), .int .u8 (b.toNat : Int), .int .u8 (c.toNat : Int)] 22)) := (Fr.refl [] w).alloc _
  rw [hz] at hb0
  have HZ0 := Lib.hid hb0
  have HF0 := Lib.hid hal
  clear hb0 hT hal hr hc
  go_enter Tryd.func7, Tryd.ntmps7
  go_upto_region 1 with fail
  generalize w.alloc _ = w0 at *
  go_wp2_with fail
  (with_reducible refine (shown10 w0 (HT.out.later HF0.out)).mono ?_)
  rintro e w1 ⟨rfl, hf1⟩
  have HZ1 := Lib.hid (HZ0.out.fr hf1 (by simp))
  have HF1 := Lib.hid (HF0.out.tr hf1)
  obtain ⟨q0, q1, q2⟩ := blk3 HZ1.out
  have f1 := HZ1.out.frozen 1
  have hwz : w.heap.size ≤ z := by omega
  have HZ2 : Hid (Blk (w1.setCell ⟨z, 1, none⟩ (.int .u8 0)) z 22 #[.int .u8 (a.toNat : Int), .int .u8 0, .int .u8 (c.toNat : Int)]) := Lib.hid (HZ1.out.put 1 (.int .u8 0))
  have HF2 := Lib.hid (HF1.out.setCell (p := ⟨z, 1, none⟩) (.inr hwz) (.int .u8 0))
  clear hf1 HZ0 HF0
  go_upto_region 3 with fail
  generalize w1.setCell ⟨z, 1, none⟩ _ = w2 at *
  clear q0 q1 q2 f1 HZ1 HF1
  obtain ⟨q0, q1, q2⟩ := blk3 HZ2.out
  go_wp2_with fail
  (with_reducible refine (HFl.out w2).mono ?_)
  rintro e w3 ⟨g, l, hg, rfl, hb3, hl3, hh3, hf3⟩
  have hbt : bt l 328 = 0 := (hh3 (by decide)).2.1
  have HM := Lib.hid (fault_more l (x.take (min (x.length : Int) 1000).toNat) hl3 (by rw [HL.out]; omega) hbt)
  have HRom := Lib.hid (more_rom l hl3 hbt)
  have hwg : w.heap.size ≤ g := by have := HF2.out.size; omega
  have HL3 := Lib.hid hl3
  have HB3 := Lib.hid hb3
  have HF3 := Lib.hid (HF2.out.tr hf3)
  clear hb3 hl3 hh3 hf3 HF2 HZ2 q0 q1 q2 hbt hg
  go_wp2_with fail
  (with_reducible refine (parse_any w3 (some ⟨g, 0, none⟩) 32768 32768 l (HT.out.later HF3.out) HL3.out (Nat.le_refl _) (rd_blk HB3.out)).mono ?_)
  rintro e w4 ⟨v, rfl, hin, hf4⟩
  obtain ⟨P, cp, rfl, hP, hPB⟩ := hin
  obtain ⟨ft, hft⟩ : ∃ f, fault l = f := ⟨_, rfl⟩
  obtain ⟨ct, hct⟩ : ∃ ct, ctOf l = ct := ⟨_, rfl⟩
  rw [hft, hct] at HM HRom
  rw [hct] at hP
  rw [hft, hct]
  obtain ⟨m, pl, r⟩ := ct
  simp only at hP HRom ⊢
  obtain ⟨p1, hp1⟩ : ∃ p, pl.length = p := ⟨_, rfl⟩
  rw [hp1] at HRom ⊢
  have HP1 := Lib.hid hp1
  have hgs := HB3.out.lt
  have hPg : ∀ ad, P = some ad → ad.block ∉ [g] := fun ad he hm => by have := hPB ad he; simp at hm; omega
  have HPg := Lib.hid hPg
  have HF4 := Lib.hid (HF3.out.tr hf4)
  have HB4 := Lib.hid (HB3.out.fr hf4 (by simp))
  have HP4 := Lib.hid hP
  clear hf4 hP hPB hPg hp1 hct hft hgs HB3 HF3
  go_upto_region 5 with fail
  obtain ⟨u, hu⟩ : ∃ u, w4.heap.size = u := ⟨_, rfl⟩
  have hbu := Blk.fresh w4 30 #[.int .i64 (m : Int), .slice P p1 cp, .int .i64 (r : Int)]
  have hal : Fr [] w4 (w4.alloc (.cells #[.int .i64 (m : Int), .slice P p1 cp, .int .i64 (r : Int)] 30)) := (Fr.refl [] w4).alloc _
  have hgu : g < u := by rw [← hu]; exact HB4.out.lt
  rw [hu] at hbu ⊢
  have HU5 := Lib.hid hbu
  have HF5 := Lib.hid (HF4.out.tr hal)
  have HB5 := Lib.hid (HB4.out.fr hal (by simp))
  have HP5 := Lib.hid (HP4.out.later hal (by simp))
  clear hbu hal HF4 HB4 HP4 hu
  generalize w4.alloc _ = w5 at *
  have HX5 : Hid (∀ W, Fr [] w5 W → Rd W A (x.take (min (x.length : Int) 1000).toNat)) := Lib.hid fun W hW => rd_take (HR.out.later (HF5.out.tr hW) (by simp)) _
  have HBr : Hid (∀ W, Fr [] w5 W → Rd W (some ⟨g, 0, none⟩) l) := Lib.hid fun W hW => (rd_blk HB5.out).later hW (by simp)
  obtain ⟨k, hk⟩ : ∃ k, (min (x.length : Int) 1000).toNat = k := ⟨_, rfl⟩
  rw [hk] at HX5 HM HL hcnt
  have hmk : min (x.length : Int) 1000 = (k : Int) := by omega
  generalize x.take k = y at *
  have HLa : Hid ((l ++ y).length = 32768 + k) := Lib.hid (by rw [List.length_append, HL3.out, HL.out])
  have HPm : Hid (∀ W A c, Fr [] w5 W → Own W w5.heap.size (.slice A (32768 + k) c) (l ++ y) → Calls Tryd.prog 11 #[.slice A (32768 + k) c] W fun e w' => ∃ P' cp', e = .returned (.tuple #[.agg #[.int .i64 (m : Int), .slice P' p1 cp', .int .i64 (r : Int)], .int .i64 (ft : Int)]) ∧ Rd w' P' pl ∧ (∀ ad, P' = some ad → W.heap.size ≤ ad.block) ∧ Fr [] W w') := Lib.hid fun W A c hW ho => by
    refine (parse_any W A (32768 + k) c (l ++ y) (HT.out.later (HF5.out.tr hW)) HLa.out ho.caps.1 ho.rd).mono ?_
    rintro e w' ⟨v, rfl, ⟨P', cp', rfl, h1, h2⟩, h3⟩
    rw [HM.out.2] at h1
    rw [HM.out.1, HM.out.2]
    exact ⟨P', cp', by simp only [HP1.out], h1, h2, h3⟩
  have hkc : (k : Int) ≤ cap := by omega
  have hkc' : k ≤ cap := by omega
  go_cut [9, 10] (fun s9 s10 wx => ∃ (uc : Nat) (P' : Option Addr) (cp' : Nat), s9 = .pointer (some ⟨uc, 0, none⟩) ∧ s10 = .int .i64 (ft : Int) ∧ Blk wx uc 30 #[.int .i64 (m : Int), .slice P' p1 cp', .int .i64 (r : Int)] ∧ Rd wx P' pl ∧ (∀ ad, P' = some ad → w5.heap.size ≤ ad.block) ∧ Fr [] w5 wx ∧ w5.heap.size ≤ uc)
  case first =>
    have HE0 := Lib.hid (Own.empty w5 w5.heap.size (Nat.le_refl _))
    have HE2 : Hid (Own ((w5.alloc (.cells #[.int .i64 0, .slice none 0 0, .int .i64 0] 30)).alloc (.cells #[] 5)) w5.heap.size (.slice (some ⟨w5.heap.size + 1, 0, none⟩) 0 0) []) := Lib.hid (by
      have h := Own.empty (w5.alloc (.cells #[.int .i64 0, .slice none 0 0, .int .i64 0] 30)) w5.heap.size (by simp)
      simpa using h)
    have HZ1 : Hid (Blk ((w5.alloc (.cells #[] 5)).alloc (.cells #[.int .i64 0, .slice none 0 0, .int .i64 0] 30)) (w5.heap.size + 1) 30 #[.int .i64 0, .slice none 0 0, .int .i64 0]) := Lib.hid (by
      have h := Blk.fresh (w5.alloc (.cells #[] 5)) 30 #[.int .i64 0, .slice none 0 0, .int .i64 0]
      simpa using h)
    have HZ0 : Hid (Blk ((w5.alloc (.cells #[.int .i64 0, .slice none 0 0, .int .i64 0] 30)).alloc (.cells #[] 5)) w5.heap.size 30 #[.int .i64 0, .slice none 0 0, .int .i64 0]) := Lib.hid ((Blk.fresh w5 30 #[.int .i64 0, .slice none 0 0, .int .i64 0]).fr ((Fr.refl [] _).alloc _) (by simp))
    go_region_held3 (fun _ => True) (first | exact trivial) (first
      | (go_at_call 11; (with_reducible refine (HPm.out _ A2 c2 (by first | with_reducible exact HFb.out | with_reducible exact HFb.out.alloc _) (by first | with_reducible exact HOb.out | with_reducible exact HOb.out.fr ((Fr.refl [] _).alloc _) (by simp))).mono ?_); rintro e wc ⟨P', cp', rfl, hr', hb', hfc⟩; have hsz := HFb.out.size; have HFc : Hid (Fr [] w5 wc) := Lib.hid ((by first | with_reducible exact HFb.out | with_reducible exact HFb.out.alloc _ : Fr [] w5 _).tr hfc); have HRc := Lib.hid hr'; have HBc : Hid (∀ ad, P' = some ad → wb.heap.size ≤ ad.block) := Lib.hid (fun ad he => by have := hb' ad he; (try simp at this); omega); (try (have HZc := Lib.hid (HZb.out.fr hfc (by simp)); have HNc := Lib.hid (fun ad (he : P' = some ad) => (show ad.block ∉ [_] from fun hm => by have h1 := HBc.out ad he; have h2 := HZb.out.lt; rw [List.mem_singleton.1 hm] at h1; exact absurd h2 (Nat.not_lt.2 h1))); have zcq := blk3 HZc.out; have zc0 := zcq.1; have zc1 := zcq.2.1; have zc2 := zcq.2.2; clear zcq; have zcf0 := HZc.out.frozen 0; have zcf1 := HZc.out.frozen 1; have zcf2 := HZc.out.frozen 2)); (try (have HZc : Hid (Blk wc wb.heap.size 30 #[.int .i64 0, .slice none 0 0, .int .i64 0]) := Lib.hid (by with_reducible exact (Blk.fresh wb 30 #[.int .i64 0, .slice none 0 0, .int .i64 0]).fr hfc (by simp)); have HNc : Hid (∀ ad, P' = some ad → ad.block ∉ [wb.heap.size]) := Lib.hid (fun ad he hm => by have h1 := hb' ad he; rw [List.mem_singleton.1 hm] at h1; simp at h1; omega); have zcq := blk3 HZc.out; have zc0 := zcq.1; have zc1 := zcq.2.1; have zc2 := zcq.2.2; clear zcq; have zcf0 := HZc.out.frozen 0; have zcf1 := HZc.out.frozen 1; have zcf2 := HZc.out.frozen 2)); clear hfc hr' hb')
      | (refine step_app _ rfl (.tmp 26) (.tmp 31) 26 rfl w5.heap.size i0 Tryd.underlying26 hi hz0 hz1 hz2 (.slice A1 32768 c1) l 32768 HL3.out (by first | rfl | simp [Act.eval]) (by first | with_reducible exact HOa.out | with_reducible exact HOa.out.fr ((Fr.refl [] _).alloc _) (by simp)) A k cap y (by first | rfl | simp [Act.eval]) HL.out (HX5.out _ (by first | with_reducible exact HFa.out | with_reducible exact HFa.out.alloc _)) HC.out (by omega) (by first | with_reducible exact HFa.out.size | with_reducible exact (HFa.out.alloc _).size) ?_; intro A2 c2 wb hob hfb _; have HFb : Hid (Fr [] w5 wb) := Lib.hid ((by first | with_reducible exact HFa.out | with_reducible exact HFa.out.alloc _ : Fr [] w5 _).trans hfb (fun k hk => .inr (HOa.out.lt k (by simpa using hk)).1)); have HOb := Lib.hid hob; (try (have HZb := Lib.hid (HZa.out.fr hfb (by have := HOa.out.other HZa.out (by decide); simpa using this)); have zbq := blk3 HZb.out; have zb0 := zbq.1; have zb1 := zbq.2.1; have zb2 := zbq.2.2; clear zbq; have zbf0 := HZb.out.frozen 0; have zbf1 := HZb.out.frozen 1; have zbf2 := HZb.out.frozen 2)); (try (have HZb : Hid (Blk wb wa.heap.size 30 #[.int .i64 0, .slice none 0 0, .int .i64 0]) := Lib.hid (by with_reducible exact (Blk.fresh wa 30 #[.int .i64 0, .slice none 0 0, .int .i64 0]).fr hfb (fun hm => by have := (HOa.out.lt _ (by simpa using hm)).2; omega)); have zbq := blk3 HZb.out; have zb0 := zbq.1; have zb1 := zbq.2.1; have zb2 := zbq.2.2; clear zbq; have zbf0 := HZb.out.frozen 0; have zbf1 := HZb.out.frozen 1; have zbf2 := HZb.out.frozen 2)); clear hob hfb)
      | (refine step_app _ rfl (.tmp 24) (.tmp 25) 26 rfl w5.heap.size i0 Tryd.underlying26 hi hz0 hz1 hz2 (.slice (some ⟨w5.heap.size, 0, none⟩) 0 0) [] 0 rfl (by first | rfl | simp [Act.eval]) (by first | with_reducible exact HE0.out.fr (Fr.refl [] _).drew (by simp) | with_reducible exact HE0.out.fr ((Fr.refl [] _).alloc _).drew (by simp)) (some ⟨g, 0, none⟩) 32768 32768 l (by first | rfl | simp [Act.eval]) HL3.out (HBr.out _ (by first | with_reducible exact ((Fr.refl [] w5).alloc _).drew | with_reducible exact (((Fr.refl [] w5).alloc _).alloc _).drew)) (by simp) (by omega) (by first | with_reducible exact ((Fr.refl [] w5).alloc _).drew | with_reducible exact (((Fr.refl [] w5).alloc _).alloc _).drew : Fr [] w5 _).size ?_; intro A1 c1 wa hoa hfa _; have HFa : Hid (Fr [] w5 wa) := Lib.hid ((by first | with_reducible exact ((Fr.refl [] w5).alloc _).drew | with_reducible exact (((Fr.refl [] w5).alloc _).alloc _).drew : Fr [] w5 _).trans hfa (by simp [Value.ownBlock])); have HOa : Hid (Own wa w5.heap.size (.slice A1 32768 c1) l) := Lib.hid hoa; (try (have HZa : Hid (Blk wa (w5.heap.size + 1) 30 #[.int .i64 0, .slice none 0 0, .int .i64 0]) := Lib.hid (by with_reducible exact (HZ1.out.fr (Fr.refl [] _).drew (by simp)).fr hfa (by simp [Value.ownBlock])); have zaq := blk3 HZa.out; have za0 := zaq.1; have za1 := zaq.2.1; have za2 := zaq.2.2; clear zaq; have zaf0 := HZa.out.frozen 0; have zaf1 := HZa.out.frozen 1; have zaf2 := HZa.out.frozen 2)); clear hoa hfa)
      | (refine step_app _ rfl (.tmp 24) (.tmp 25) 26 rfl w5.heap.size i0 Tryd.underlying26 hi hz0 hz1 hz2 (.slice (some ⟨w5.heap.size + 1, 0, none⟩) 0 0) [] 0 rfl (by first | rfl | simp [Act.eval]) (by with_reducible exact HE2.out.fr (Fr.refl [] _).drew (by simp)) (some ⟨g, 0, none⟩) 32768 32768 l (by first | rfl | simp [Act.eval]) HL3.out (HBr.out _ (by first | with_reducible exact ((Fr.refl [] w5).alloc _).drew | with_reducible exact (((Fr.refl [] w5).alloc _).alloc _).drew)) (by simp) (by omega) (by first | with_reducible exact ((Fr.refl [] w5).alloc _).drew | with_reducible exact (((Fr.refl [] w5).alloc _).alloc _).drew : Fr [] w5 _).size ?_; intro A1 c1 wa hoa hfa _; have HFa : Hid (Fr [] w5 wa) := Lib.hid ((by first | with_reducible exact ((Fr.refl [] w5).alloc _).drew | with_reducible exact (((Fr.refl [] w5).alloc _).alloc _).drew : Fr [] w5 _).trans hfa (by simp [Value.ownBlock])); have HOa : Hid (Own wa w5.heap.size (.slice A1 32768 c1) l) := Lib.hid hoa; (try (have HZa : Hid (Blk wa w5.heap.size 30 #[.int .i64 0, .slice none 0 0, .int .i64 0]) := Lib.hid (by with_reducible exact (HZ0.out.fr (Fr.refl [] _).drew (by simp)).fr hfa (by simp [Value.ownBlock])); have zaq := blk3 HZa.out; have za0 := zaq.1; have za1 := zaq.2.1; have za2 := zaq.2.2; clear zaq; have zaf0 := HZa.out.frozen 0; have zaf1 := HZa.out.frozen 1; have zaf2 := HZa.out.frozen 2)); clear hoa hfa))
    all_goals
      go_wp2_with fail
      go_meet
      have h1 := HFa.out.size
      have h2 := HFb.out.size
      have h3 := HFc.out.size
      first
        | with_reducible exact ⟨wc.heap.size, P', cp', rfl, rfl, Blk.fresh wc _ _, HRc.out.later ((Fr.refl [] wc).alloc _) (by simp), fun ad he => by have := HBc.out ad he; omega, HFc.out.alloc _, h3⟩
        | with_reducible exact ⟨_, P', cp', rfl, rfl, three_put HZc.out _ _ _, HRc.out.fr (three_fr wc _ _ _ _) HNc.out, fun ad he => by have := HBc.out ad he; omega, HFc.out.trans (three_fr wc _ _ _ _) (by simp; try omega), by omega⟩
  case rest =>
    obtain ⟨uc, P', cp', rfl, rfl, hbc, hrp, hpb, hf5c, huc⟩ := hcut
    have hg5 := HB5.out.lt
    have hu5 := HU5.out.lt
    have hPg' : ∀ ad, P' = some ad → ad.block ∉ [g] := fun ad he hm => by have := hpb ad he; simp at hm; omega
    have HPg' := Lib.hid hPg'
    have HUc := Lib.hid hbc
    have HPc' := Lib.hid hrp
    have HBc := Lib.hid (HB5.out.fr hf5c (by simp))
    have HU6 := Lib.hid (HU5.out.fr hf5c (by simp))
    have HPc := Lib.hid (HP5.out.later hf5c (by simp))
    have HFc := Lib.hid (HF5.out.tr hf5c)
    have hgu' : g ≠ uc := by omega
    have hgu2 : g ≠ u := by omega
    clear hbc hrp hpb hf5c hPg' HB5 HU5 HP5 HF5 HPm HM HX5 HBr HLa HL HC HR HFl hkc hkc' hmk hk hcnt hlc
    go_wp2_with fail
    go_loopw [11] (fun s11 wr => ∃ (i : Nat) (L : List UInt8), s11 = .int .i64 (i : Int) ∧ i ≤ 32768 ∧ L.length = 32768 ∧ Blk wr g 5 (bv L).toArray ∧ Blk wr u 30 #[.int .i64 (m : Int), .slice P p1 cp, .int .i64 (r : Int)] ∧ Blk wr uc 30 #[.int .i64 (m : Int), .slice P' p1 cp', .int .i64 (r : Int)] ∧ Rd wr P pl ∧ Rd wr P' pl ∧ Fr [] w wr) (fun s11 _ => 32768 - (intOf s11).toNat)
    case atStart => exact ⟨0, l, rfl, Nat.zero_le _, HL3.out, HBc.out, HU6.out, HUc.out, HPc.out, HPc'.out, HFc.out⟩
    case round =>
      obtain ⟨i, L, rfl, hi, hL, hb, hub, hucb, hp, hp', hf⟩ := hrel
      have HL := Lib.hid hL
      have HB := Lib.hid hb
      have HU := Lib.hid hub
      have HV := Lib.hid hucb
      have HPr := Lib.hid hp
      have HPr' := Lib.hid hp'
      have HF := Lib.hid hf
      by_cases hlt : i < 32768
      · have h1 : (i : Int) < 32768 := by omega
        have h0 : (0 : Int) ≤ i := by omega
        have c1 := blk_at hb i (by omega)
        have f1 := hb.frozen i
        clear hb hub hucb hp hp' hf hL
        go_wp2_with fail
        go_roundw
        case rel =>
          have hst : Fr [g] wr (wr.setCell ⟨g, i, none⟩ (.int .u8 0)) := (Fr.refl [g] wr).setCell (by simp) _
          exact ⟨i + 1, L.set i 0, by go_num, by omega, by rw [List.length_set]; exact HL.out, blk_put HB.out i 0, HU.out.fr hst (by simp; omega), HV.out.fr hst (by simp; omega), HPr.out.fr hst HPg.out, HPr'.out.fr hst HPg'.out, HF.out.setCell (.inr hwg) _⟩
        case measure => simp [intOf]; omega
      · obtain rfl : i = 32768 := by omega
        obtain ⟨d0, d1, d2⟩ := blk3 hub
        obtain ⟨e0, e1, e2⟩ := blk3 hucb
        have HS := Lib.hid (same_cart 0 0 wr (.agg #[.int .i64 (m : Int), .slice P p1 cp, .int .i64 (r : Int)]) (.agg #[.int .i64 (m : Int), .slice P' p1 cp', .int .i64 (r : Int)]) ⟨m, pl, r⟩ ⟨P, cp, by rw [← HP1.out], HPr.out, fun _ _ => Nat.zero_le _⟩ ⟨P', cp', by rw [← HP1.out], HPr'.out, fun _ _ => Nat.zero_le _⟩)
        clear hb hub hucb hp hp' hf hL HB
        rcases HRom.out with ⟨rfl, rfl⟩ | ⟨hft, rfl⟩
        · go_wp2_with fail
          (with_reducible refine HS.out.mono ?_)
          rintro e w8 ⟨rfl, hf8⟩
          have HF8 := Lib.hid (HF.out.tr hf8)
          obtain ⟨j0, j1, j2⟩ := blk3 (HU.out.fr hf8 (by simp))
          clear hf8 d0 d1 d2 e0 e1 e2
          go_wp2
          go_ret
          exact ⟨by simp, HF8.out.below (by simp) (Nat.le_refl _)⟩
        · obtain ⟨X, hX⟩ : ∃ X : Int, (ft : Int) = X := ⟨_, rfl⟩
          have h1 : (X == 0) = false := by rw [beq_eq_false_iff_ne]; omega
          rw [hX]
          clear hX hft HRom
          go_wp2_with fail
          (with_reducible refine HS.out.mono ?_)
          rintro e w8 ⟨rfl, hf8⟩
          have HF8 := Lib.hid (HF.out.tr hf8)
          obtain ⟨j0, j1, j2⟩ := blk3 (HU.out.fr hf8 (by simp))
          clear hf8 d0 d1 d2 e0 e1 e2
          go_wp2
          go_ret
          exact ⟨by simp, HF8.out.below (by simp) (Nat.le_refl _)⟩

end Gb
end Go.Proofs.YthomlnaabkfcpaaDoor
