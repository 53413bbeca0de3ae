/-
  picklocklaw09.InesRaw returns true for every input. No condition.
-/
import Derived.Test.YthabiaenaicppaaIneShown
import Derived.Test.YthabiaenaicppaaIpsAp
namespace Go.Proofs.Ythabiaenaicppaa
open Go.RowKit
namespace Ine

set_option maxRecDepth 100000 in
set_option maxHeartbeats 4000000 in
theorem raw_walk (a0 : Option Addr) (cap0 : Nat) (l : List UInt8) (ahead : Bool) (w : World) (hr : Rd w a0 l) (hc : a0 = none → cap0 = 0) (hlc : l.length ≤ cap0) (_hcm : cap0 ≤ maxLen) :
    Calls Try.prog 4 #[.slice a0 l.length cap0, .bool ahead] w fun e w' => e = .returned (.bool true) ∧ Below w.heap.size w w' := by
  obtain ⟨i0, hi, hz0, hz1, hz2⟩ := info_parts info5
  have HR := Lib.hid hr
  have HC := Lib.hid hc
  have HL := Lib.hid (take_len l 1000 (by omega))
  have hcnt : (min (l.length : Int) 1000).toNat ≤ 1000 := by omega
  unfold maxLen at _hcm
  clear hr hc
  go_enter Try.func4, Try.ntmps4
  go_wp2_with (first
    | (go_at_call 7; refine (shown9 _).mono ?_; rintro e w1 ⟨rfl, hf1⟩; have HF1 := Lib.hid hf1; have hs1 := hf1.size; clear hf1)
    | (at_builtin; refine wpList_app _ rfl (.tmp 11) (.tmp 16) 27 rfl w.heap.size i0 Try.underlying27 hi hz0 hz1 hz2 (.slice (some ⟨w1.heap.size, 0, none⟩) 0 0) [] rfl (Own.empty w1 _ hs1) a0 _ cap0 (l.take (min (l.length : Int) 1000).toNat) rfl HL.out (rd_take (HR.out.later (HF1.out.alloc _) (by simp)) _) HC.out (by simp; omega) (by simp; omega) ?_))
  intro A1 c1 w2 ho2 hf2 hlies
  have HF2 : Hid (Fr [] w w2) := Lib.hid ((HF1.out.alloc _).trans hf2 (by simp [Value.ownBlock]; omega))
  have HM1 : Hid ((l.take (min (l.length : Int) 1000).toNat).length = (min (l.length : Int) 1000).toNat) := HL.out
  have HX : Hid (Rd w2 A1 (l.take (min (l.length : Int) 1000).toNat)) := Lib.hid ho2.rd
  obtain ⟨hna1, hna2⟩ := ho2.caps
  have HNn : Hid (A1 = none → c1 = 0) := Lib.hid (by rcases ho2.form0 with ⟨_, _, h⟩ | ⟨g, h⟩; exact fun _ => h; exact fun e => by rw [h] at e; cases e)
  clear ho2 hf2 HR HC HL hlc hs1 hlies HF1
  generalize (min (l.length : Int) 1000).toNat = n0 at *
  generalize l.take n0 = x at *
  cases ahead
  · have HRD := HX
    have HLn := HM1
    have hc3 := hna1
    have hm3 := hna2
    have HF3 := HF2
    clear HNn HX HM1 HF2
    go_upto_region 5 with fail
    have HPa := Lib.hid (parse_any w2 A1 n0 c1 x HLn.out hc3 HRD.out)
    have HRa : Hid (∀ W, Fr [] w2 W → Calls Try.prog 11 #[.slice A1 n0 c1] W (Outcome W x)) := Lib.hid fun W hW => rparse_any W A1 n0 c1 x HLn.out hc3 hm3 (HRD.out.later hW (by simp))
    unfold Outcome at HPa HRa
    generalize (fault x : Int) = ft at *
    generalize ctOf x = ct at *
    clear HRD HLn
    go_wp2_with fail
    (with_reducible refine HPa.out.mono ?_)
    rintro e w4 ⟨v, rfl, hin, hf4⟩
    obtain ⟨P, cp, C, cc, rfl, hP, hC⟩ := hin
    have HF4 := Lib.hid hf4
    have HPP := Lib.hid hP
    have HCC := Lib.hid hC
    obtain ⟨m, r, pl, cl, ram⟩ := ct
    simp only at HPP HCC ⊢
    obtain ⟨p1, hp1⟩ : ∃ p, pl.length = p := ⟨_, rfl⟩
    obtain ⟨p2, hp2⟩ : ∃ p, cl.length = p := ⟨_, rfl⟩
    rw [hp1, hp2]
    have HP1 := Lib.hid hp1
    have HP2 := Lib.hid hp2
    clear hf4 hP hC hp1 hp2 HPa
    go_upto_region 6 with fail
    obtain ⟨u1, hu1⟩ : ∃ u, w4.heap.size = u := ⟨_, rfl⟩
    have hb5 := Blk.fresh w4 32 #[.int .i64 (m : Int), .int .i64 (r : Int), .slice P p1 cp, .slice C p2 cc, .bool ram]
    have hal : Fr [] w4 (w4.alloc (.cells #[.int .i64 (m : Int), .int .i64 (r : Int), .slice P p1 cp, .slice C p2 cc, .bool ram] 32)) := (Fr.refl [] w4).alloc _
    rw [hu1] at hb5 ⊢
    have HB5 := Lib.hid hb5
    have HF5 := Lib.hid (HF4.out.tr hal)
    have HP5 := Lib.hid (HPP.out.later hal (by simp))
    have HC5 := Lib.hid (HCC.out.later hal (by simp))
    clear hb5 hal HF4 HPP HCC
    generalize w4.alloc _ = w5 at *
    have HRb := Lib.hid (HRa.out w5 HF5.out)
    clear HRa
    go_wp2_with fail
    (with_reducible refine HRb.out.mono ?_)
    rintro e w6 ⟨v, rfl, hin, hf6⟩
    obtain ⟨P', cp', C', cc', rfl, hP', hC'⟩ := hin
    simp only at hP' hC' ⊢
    rw [HP1.out, HP2.out]
    have HF6 := Lib.hid (HF5.out.tr hf6)
    have HB6 := Lib.hid (HB5.out.fr hf6 (by simp))
    have HP6 := Lib.hid (HP5.out.later hf6 (by simp))
    have HC6 := Lib.hid (HC5.out.later hf6 (by simp))
    have HPP := Lib.hid hP'
    have HCC := Lib.hid hC'
    clear hf6 hP' hC' HF5 HB5 HP5 HC5 HRb
    go_upto_region 7 with fail
    obtain ⟨u2, hu2⟩ : ∃ u, w6.heap.size = u := ⟨_, rfl⟩
    have hb7 := Blk.fresh w6 36 #[.int .i64 (m : Int), .int .i64 (r : Int), .slice P' p1 cp', .slice C' p2 cc', .bool ram]
    have hal : Fr [] w6 (w6.alloc (.cells #[.int .i64 (m : Int), .int .i64 (r : Int), .slice P' p1 cp', .slice C' p2 cc', .bool ram] 36)) := (Fr.refl [] w6).alloc _
    rw [hu2] at hb7 ⊢
    have hb5 := HB6.out.fr hal (by simp)
    have HF7 := Lib.hid (HF6.out.tr hal)
    have HK := Lib.hid (HP6.out.later hal (by simp))
    have HK2 := Lib.hid (HC6.out.later hal (by simp))
    have HK3 := Lib.hid (HPP.out.later hal (by simp))
    have HK4 := Lib.hid (HCC.out.later hal (by simp))
    clear hal HF6 HB6 HP6 HC6 HPP HCC
    generalize w6.alloc _ = w7 at *
    obtain ⟨d0, d1, d2, d3, d4⟩ := blk5 hb5
    obtain ⟨e0, e1, e2, e3, e4⟩ := blk5 hb7
    have HS := Lib.hid (same_cart w7 (.agg #[.int .i64 (m : Int), .int .i64 (r : Int), .slice P p1 cp, .slice C p2 cc, .bool ram]) (.agg #[.int .i64 (m : Int), .int .i64 (r : Int), .slice P' p1 cp', .slice C' p2 cc', .bool ram]) ⟨m, r, pl, cl, ram⟩ ⟨P, cp, C, cc, by rw [← HP1.out, ← HP2.out], HK.out, HK2.out⟩ ⟨P', cp', C', cc', by rw [← HP1.out, ← HP2.out], HK3.out, HK4.out⟩)
    clear hb5 hb7 HK HK2 HK3 HK4
    go_wp2_with fail
    (with_reducible refine HS.out.mono ?_)
    rintro e w8 ⟨rfl, hf8⟩
    have HF8 : Hid (Fr [] w w8) := Lib.hid (HF3.out.tr (HF7.out.tr hf8))
    clear hf8 d0 d1 d2 d3 d4 e0 e1 e2 e3 e4
    go_wp2
    go_ret
    exact ⟨by rfl, HF8.out.below (by simp) (Nat.le_refl _)⟩
  · obtain ⟨q, hq⟩ : ∃ q, w2.heap.size = q := ⟨_, rfl⟩
    have kc := conv_const w2 q hq #[.int .u8 78, .int .u8 69, .int .u8 83, .int .u8 26] 4 4
    simp only [List.size_toArray, List.length_cons, List.length_nil, Nat.reduceAdd, Nat.zero_add] at kc
    have HAp : Hid (Ips.Ap (w2.alloc (.cells #[.int .u8 78, .int .u8 69, .int .u8 83, .int .u8 26] 5 (4, 5))) w.heap.size (.slice (some ⟨q, 0, none⟩) 4 4) mark) := Lib.hid (.inr ⟨q, rfl, rd_const w2 q hq mark 5 (4, 5), by have := HF2.out.size; omega, by simp [hq]⟩)
    have hal : Fr [] w2 (w2.alloc (.cells #[.int .u8 78, .int .u8 69, .int .u8 83, .int .u8 26] 5 (4, 5))) := (Fr.refl [] w2).alloc _
    have HX2 := Lib.hid (HX.out.later hal (by simp))
    have HFa := Lib.hid (HF2.out.tr hal)
    clear hal
    go_wp2_with (at_builtin; refine Ips.wpList_ap _ rfl _ _ 27 rfl w.heap.size i0 Try.underlying27 hi hz0 hz1 hz2 (.slice (some ⟨q, 0, none⟩) 4 4) mark rfl HAp.out A1 n0 c1 x rfl HM1.out HX2.out HNn.out (4 + n0) rfl (by omega) HFa.out.size ?_)
    intro A3 c3 w3 ho3 hf3
    obtain ⟨L3, hL3⟩ : ∃ L, mark ++ x = L := ⟨_, rfl⟩
    obtain ⟨n3, hn3⟩ : ∃ n, 4 + n0 = n := ⟨_, rfl⟩
    have hlen : L3.length = n3 := by rw [← hL3, ← hn3, List.length_append, HM1.out]; rfl
    rw [hL3, hn3] at ho3
    rw [hn3]
    obtain ⟨A', c', hv, h1, -, h2, h3⟩ := ho3.slice (by rw [hlen]; unfold maxLen; omega)
    injection hv with e1 e2 e3
    rw [← e1] at h1
    rw [← e3] at h2 h3
    have HRD := Lib.hid h1
    have HLn := Lib.hid hlen
    have hc3 : n3 ≤ c3 := by omega
    have hm3 : c3 ≤ 9223372036854775807 := by unfold maxLen at h3; omega
    have HF3 : Hid (Fr [] w w3) := Lib.hid (HFa.out.trans hf3 (by simp [Value.ownBlock]; have := HF2.out.size; omega))
    clear ho3 hf3 h1 h2 h3 hlen hL3 hn3 e1 e2 e3 HNn HX HM1 HF2 HAp HX2 HFa kc hq
    have HPa := Lib.hid (parse_any w3 A3 n3 c3 L3 HLn.out hc3 HRD.out)
    have HRa : Hid (∀ W, Fr [] w3 W → Calls Try.prog 11 #[.slice A3 n3 c3] W (Outcome W L3)) := Lib.hid fun W hW => rparse_any W A3 n3 c3 L3 HLn.out hc3 hm3 (HRD.out.later hW (by simp))
    unfold Outcome at HPa HRa
    generalize (fault L3 : Int) = ft at *
    generalize ctOf L3 = ct at *
    clear HRD HLn
    go_wp2_with fail
    (with_reducible refine HPa.out.mono ?_)
    rintro e w4 ⟨v, rfl, hin, hf4⟩
    obtain ⟨P, cp, C, cc, rfl, hP, hC⟩ := hin
    have HF4 := Lib.hid hf4
    have HPP := Lib.hid hP
    have HCC := Lib.hid hC
    obtain ⟨m, r, pl, cl, ram⟩ := ct
    simp only at HPP HCC ⊢
    obtain ⟨p1, hp1⟩ : ∃ p, pl.length = p := ⟨_, rfl⟩
    obtain ⟨p2, hp2⟩ : ∃ p, cl.length = p := ⟨_, rfl⟩
    rw [hp1, hp2]
    have HP1 := Lib.hid hp1
    have HP2 := Lib.hid hp2
    clear hf4 hP hC hp1 hp2 HPa
    go_upto_region 6 with fail
    obtain ⟨u1, hu1⟩ : ∃ u, w4.heap.size = u := ⟨_, rfl⟩
    have hb5 := Blk.fresh w4 32 #[.int .i64 (m : Int), .int .i64 (r : Int), .slice P p1 cp, .slice C p2 cc, .bool ram]
    have hal : Fr [] w4 (w4.alloc (.cells #[.int .i64 (m : Int), .int .i64 (r : Int), .slice P p1 cp, .slice C p2 cc, .bool ram] 32)) := (Fr.refl [] w4).alloc _
    rw [hu1] at hb5 ⊢
    have HB5 := Lib.hid hb5
    have HF5 := Lib.hid (HF4.out.tr hal)
    have HP5 := Lib.hid (HPP.out.later hal (by simp))
    have HC5 := Lib.hid (HCC.out.later hal (by simp))
    clear hb5 hal HF4 HPP HCC
    generalize w4.alloc _ = w5 at *
    have HRb := Lib.hid (HRa.out w5 HF5.out)
    clear HRa
    go_wp2_with fail
    (with_reducible refine HRb.out.mono ?_)
    rintro e w6 ⟨v, rfl, hin, hf6⟩
    obtain ⟨P', cp', C', cc', rfl, hP', hC'⟩ := hin
    simp only at hP' hC' ⊢
    rw [HP1.out, HP2.out]
    have HF6 := Lib.hid (HF5.out.tr hf6)
    have HB6 := Lib.hid (HB5.out.fr hf6 (by simp))
    have HP6 := Lib.hid (HP5.out.later hf6 (by simp))
    have HC6 := Lib.hid (HC5.out.later hf6 (by simp))
    have HPP := Lib.hid hP'
    have HCC := Lib.hid hC'
    clear hf6 hP' hC' HF5 HB5 HP5 HC5 HRb
    go_upto_region 7 with fail
    obtain ⟨u2, hu2⟩ : ∃ u, w6.heap.size = u := ⟨_, rfl⟩
    have hb7 := Blk.fresh w6 36 #[.int .i64 (m : Int), .int .i64 (r : Int), .slice P' p1 cp', .slice C' p2 cc', .bool ram]
    have hal : Fr [] w6 (w6.alloc (.cells #[.int .i64 (m : Int), .int .i64 (r : Int), .slice P' p1 cp', .slice C' p2 cc', .bool ram] 36)) := (Fr.refl [] w6).alloc _
    rw [hu2] at hb7 ⊢
    have hb5 := HB6.out.fr hal (by simp)
    have HF7 := Lib.hid (HF6.out.tr hal)
    have HK := Lib.hid (HP6.out.later hal (by simp))
    have HK2 := Lib.hid (HC6.out.later hal (by simp))
    have HK3 := Lib.hid (HPP.out.later hal (by simp))
    have HK4 := Lib.hid (HCC.out.later hal (by simp))
    clear hal HF6 HB6 HP6 HC6 HPP HCC
    generalize w6.alloc _ = w7 at *
    obtain ⟨d0, d1, d2, d3, d4⟩ := blk5 hb5
    obtain ⟨e0, e1, e2, e3, e4⟩ := blk5 hb7
    have HS := Lib.hid (same_cart w7 (.agg #[.int .i64 (m : Int), .int .i64 (r : Int), .slice P p1 cp, .slice C p2 cc, .bool ram]) (.agg #[.int .i64 (m : Int), .int .i64 (r : Int), .slice P' p1 cp', .slice C' p2 cc', .bool ram]) ⟨m, r, pl, cl, ram⟩ ⟨P, cp, C, cc, by rw [← HP1.out, ← HP2.out], HK.out, HK2.out⟩ ⟨P', cp', C', cc', by rw [← HP1.out, ← HP2.out], HK3.out, HK4.out⟩)
    clear hb5 hb7 HK HK2 HK3 HK4
    go_wp2_with fail
    (with_reducible refine HS.out.mono ?_)
    rintro e w8 ⟨rfl, hf8⟩
    have HF8 : Hid (Fr [] w w8) := Lib.hid (HF3.out.tr (HF7.out.tr hf8))
    clear hf8 d0 d1 d2 d3 d4 e0 e1 e2 e3 e4
    go_wp2
    go_ret
    exact ⟨by rfl, HF8.out.below (by simp) (Nat.le_refl _)⟩

end Ine
end Go.Proofs.Ythabiaenaicppaa
