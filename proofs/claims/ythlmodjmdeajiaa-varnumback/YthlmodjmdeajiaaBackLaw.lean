/-
  picklocklaw03.VarnumBack returns true for every input: what was put is taken, whatever stands behind. No condition.
-/
import Derived.Test.YthlmodjmdeajiaaShown
namespace Go.Proofs.Ythlmodjmdeajiaa
open Go.RowKit
namespace Var

theorem leftN (w : World) (p g k n : Nat) (l : List UInt8) (hn : (l.length : Int) - k = n) (h : Rdr w p g l k) (hk : k ≤ l.length) (hl : l.length ≤ 1000000000) :
    Calls Try.prog 20 #[.pointer (some ⟨p, 0, none⟩)] w fun e w' => e = .returned (.int .i64 (n : Int)) ∧ ∃ m, w' = w.drewN m := by
  rw [← hn]
  exact left_any w p g k l h hk hl

set_option maxRecDepth 100000 in
set_option maxHeartbeats 2000000 in
theorem back_walk (x y : Nat) (a0 : Option Addr) (cap0 : Nat) (l : List UInt8) (w : World) (hx : x < 18446744073709551616) (hy : y < 18446744073709551616) (hr : Rd w a0 l) (hc : a0 = none → cap0 = 0) (hlc : l.length ≤ cap0) (_hcm : cap0 ≤ maxLen) :
    Calls Try.prog 6 #[.int .u64 (x : Int), .int .u64 (y : Int), .slice a0 l.length cap0] w fun e w' => e = .returned (.bool true) ∧ Below w.heap.size w w' := by
  obtain ⟨i0, hi, hz0, hz1, hz2⟩ := info_parts info5
  obtain ⟨u, hu⟩ : ∃ u : Nat, x % 4294967297 = u := ⟨_, rfl⟩
  obtain ⟨v, hv⟩ : ∃ v : Nat, y % 4294967297 = v := ⟨_, rfl⟩
  have hum : u ≤ most := by unfold most; omega
  have hvm : v ≤ most := by unfold most; omega
  have hxu : (x : Int) % 4294967297 = (u : Int) := by omega
  have hyv : (y : Int) % 4294967297 = (v : Int) := by omega
  clear hu hv
  obtain ⟨U, hU⟩ : ∃ U, putV u = U := ⟨_, rfl⟩
  obtain ⟨V, hV⟩ : ∃ V, putV v = V := ⟨_, rfl⟩
  obtain ⟨nu, hnu⟩ : ∃ n, U.length = n := ⟨_, rfl⟩
  obtain ⟨nv, hnv⟩ : ∃ n, V.length = n := ⟨_, rfl⟩
  have hu1 : 1 ≤ nu := by rw [← hnu, ← hU]; exact putV_pos u
  have hu5 : nu ≤ 5 := by rw [← hnu, ← hU]; exact putV_le5 hum
  have hv5 : nv ≤ 5 := by rw [← hnv, ← hV]; exact putV_le5 hvm
  have hmono : u ≤ v → nu ≤ nv := by intro h; rw [← hnu, ← hnv, ← hU, ← hV]; exact putV_mono u v h
  have HU := Lib.hid hU
  have HV := Lib.hid hV
  have HNU := Lib.hid hnu
  have HNV := Lib.hid hnv
  have HR := Lib.hid hr
  have HC := Lib.hid hc
  have HL := Lib.hid (take_len l 20 (by omega))
  have hcnt : (min (l.length : Int) 20).toNat ≤ 20 := by omega
  unfold maxLen at _hcm
  clear hr hc hU hV hnu hnv
  go_enter Try.func6, Try.ntmps6
  go_wp2_with (first
    | (go_at_call 8; refine (shown_any _).mono ?_; rintro e w1 ⟨rfl, hf1⟩; have HF1 := Lib.hid hf1; have hs1 := hf1.size; clear hf1)
    | (at_builtin; refine wpList_app _ rfl (.tmp 20) (.tmp 25) 22 rfl w.heap.size i0 Try.underlying22 hi hz0 hz1 hz2 (.slice (some ⟨w1.heap.size, 0, none⟩) 0 0) [] rfl (Own.empty w1 _ hs1) a0 _ cap0 (l.take (min (l.length : Int) 20).toNat) rfl HL.out (rd_take (HR.out.later (HF1.out.alloc _) (by simp)) _) HC.out (by simp; omega) (by simp; omega) ?_))
  intro A1 c1 w2 ho2 hf2 _
  have HF2 : Hid (Fr [] w w2) := (HF1.out.alloc _).trans hf2 (by simp [Value.ownBlock]; omega)
  have HM : Hid ((l.take (min (l.length : Int) 20).toNat).length = (min (l.length : Int) 20).toNat) := HL.out
  have HC2 : Hid (A1 = none → c1 = 0) := by
    intro h
    rcases ho2.form0 with ⟨_, _, h'⟩ | ⟨g, h'⟩
    · exact h'
    · rw [h] at h'; cases h'
  have HO2 := Lib.hid ho2
  have hs2 := HF2.out.size
  clear ho2 hf2 HL HR HC hlc hs1
  generalize (min (l.length : Int) 20).toNat = n at *
  generalize l.take n = m at *
  have HR2 := Lib.hid HO2.out.rd
  clear HO2
  go_wp2_with fail
  refine (put_any w2 u hum).mono ?_
  rw [HU.out, HNU.out]
  rintro e w3 ⟨g3, rfl, hg3, hb3, hf3⟩
  have HB3 := Lib.hid hb3
  have HF3 : Hid (Fr [] w w3) := HF2.out.tr hf3
  have HR3 := Lib.hid (HR2.out.fr hf3 (by simp))
  clear hb3 hf3
  go_wp2_with fail
  refine (put_any w3 v hvm).mono ?_
  rw [HV.out, HNV.out]
  rintro e w4 ⟨g4, rfl, hg4, hb4, hf4⟩
  have HRV := Lib.hid (rd_blk hb4)
  have HRU := Lib.hid (rd_blk (HB3.out.fr hf4 (by simp)))
  have HRM := Lib.hid (HR3.out.fr hf4 (by simp))
  have HF4 : Hid (Fr [] w w4) := HF3.out.tr hf4
  have hs4 := HF4.out.size
  clear hb4 hf4 HB3 HR3 HR2 HF3 HF2 HF1 hg3 hg4
  have fA : Hid (Fr [] w4 (w4.alloc (.cells #[] 5))) := (Fr.refl [] w4).alloc _
  go_wp2_with (at_builtin; refine wpList_appN _ rfl (.tmp 31) (.tmp 32) 22 rfl w4.heap.size i0 Try.underlying22 hi hz0 hz1 hz2 (.slice (some ⟨w4.heap.size, 0, none⟩) 0 0) [] 0 rfl rfl (Own.empty w4 _ (Nat.le_refl _)) (some ⟨g3, 0, none⟩) nu nu U rfl HNU.out (HRU.out.fr fA.out (by simp)) (by simp) (by omega) (by simp) ?_)
  intro A5 c5 w5 ho5 hf5 _
  have HF5 : Hid (Fr [] w4 w5) := fA.out.trans hf5 (by simp [Value.ownBlock])
  have HO5 : Hid (Own w5 w4.heap.size (.slice A5 nu c5) U) := by
    show Own w5 w4.heap.size (.slice A5 nu c5) U
    simpa using ho5
  have hs5 := HF5.out.size
  clear ho5 hf5
  go_wp2_with (at_builtin; refine wpList_appN _ rfl (.tmp 33) (.tmp 34) 22 rfl w4.heap.size i0 Try.underlying22 hi hz0 hz1 hz2 (.slice A5 nu c5) U nu HNU.out rfl HO5.out (some ⟨g4, 0, none⟩) nv nv V rfl HNV.out (HRV.out.fr HF5.out (by simp)) (by simp) (by omega) hs5 ?_)
  intro A6 c6 w6 ho6 hf6 _
  have HF6 : Hid (Fr [] w4 w6) := HF5.out.trans hf6 (by intro k hk; exact .inr (HO5.out.lt k (by simpa using hk)).1)
  have HO6 := Lib.hid ho6
  have HL6 : Hid ((U ++ V).length = nu + nv) := by show (U ++ V).length = nu + nv; rw [List.length_append, HNU.out, HNV.out]
  have hs6 := HF6.out.size
  clear ho6 hf6
  go_wp2_with (at_builtin; refine wpList_appN _ rfl (.tmp 35) (.tmp 36) 22 rfl w4.heap.size i0 Try.underlying22 hi hz0 hz1 hz2 (.slice A6 (nu + nv) c6) (U ++ V) (nu + nv) HL6.out rfl HO6.out A1 n c1 m rfl HM.out (HRM.out.fr HF6.out (by simp)) HC2.out (by omega) hs6 ?_)
  intro A7 c7 w7 ho7 hf7 _
  have HF7 : Hid (Fr [] w4 w7) := HF6.out.trans hf7 (by intro k hk; exact .inr (HO6.out.lt k (by simpa using hk)).1)
  have HO7 : Hid (Own w7 w4.heap.size (.slice A7 (nu + nv + n) c7) (U ++ V ++ m)) := by
    show Own w7 w4.heap.size (.slice A7 (nu + nv + n) c7) (U ++ V ++ m)
    simpa using ho7
  have HL7 : Hid ((U ++ V ++ m).length = nu + nv + n) := by show (U ++ V ++ m).length = nu + nv + n; rw [List.length_append, HL6.out, HM.out]
  clear ho7 hf7
  have HT1 : Hid (takeV ((U ++ V ++ m).drop 0) = (u, nu, 0)) := by
    show takeV ((U ++ V ++ m).drop 0) = (u, nu, 0)
    rw [List.drop_zero, List.append_assoc, ← HU.out, takeV_put u _ hum, HU.out, HNU.out]
  have HT2 : Hid (takeV ((U ++ V ++ m).drop nu) = (v, nv, 0)) := by
    show takeV ((U ++ V ++ m).drop nu) = (v, nv, 0)
    rw [List.append_assoc, ← HNU.out, List.drop_left, ← HV.out, takeV_put v _ hvm, HV.out, HNV.out]
  have HN7 : Hid (((U ++ V ++ m).length : Int) - ((nu + nv : Nat) : Int) = (n : Int)) := by
    show ((U ++ V ++ m).length : Int) - ((nu + nv : Nat) : Int) = (n : Int)
    rw [HL7.out]
    omega
  generalize U ++ V ++ m = L at *
  go_wp2_with fail
  refine (newReader_any A7 (nu + nv + n) c7 L w7 HL7.out HO7.out.rd (by omega)).mono ?_
  rintro e w8 ⟨p, rfl, h8, hp8, hf8⟩
  have H8 := Lib.hid h8
  have hs7 := HF7.out.size
  have HF8 : Hid (Fr [] w w8) := (HF4.out.tr HF7.out).tr hf8
  have hp : w.heap.size ≤ p := by omega
  clear h8 hf8 hp8
  go_wp2_with fail
  refine (take_any w8 p w7.heap.size 0 L H8.out (Nat.zero_le _) (by rw [HL7.out]; omega) (u, nu, 0) HT1.out).mono ?_
  rintro e w9 ⟨rfl, h9, hf9⟩
  have H9 : Hid (Rdr w9 p w7.heap.size L nu) := by
    show Rdr w9 p w7.heap.size L nu
    simpa using h9
  have HF9 : Hid (Fr [] w w9) := HF8.out.trans hf9 (by simpa using hp)
  clear h9 hf9
  go_wp2_with fail
  refine (take_any w9 p w7.heap.size nu L H9.out (by rw [HL7.out]; omega) (by rw [HL7.out]; omega) (v, nv, 0) HT2.out).mono ?_
  rintro e w10 ⟨rfl, h10, hf10⟩
  have H10 := Lib.hid h10
  have HF10 : Hid (Fr [] w w10) := HF9.out.trans hf10 (by simpa using hp)
  clear h10 hf10
  by_cases huv : v < u
  · have huv' : (v : Int) < (u : Int) := by omega
    go_wp2_with fail
    refine (leftN w10 p w7.heap.size (nu + nv) n L HN7.out H10.out (by rw [HL7.out]; omega) (by rw [HL7.out]; omega)).mono ?_
    rintro e w11 ⟨rfl, k, rfl⟩
    go_wp2
    go_ret
    exact ⟨congrArg (fun b => Ending.returned (Value.bool b)) (decide_eq_true (show (nu : Int) ≤ 5 by omega)), (HF10.out.drewN k).below (by simp) (Nat.le_refl _)⟩
  · have huv' : ¬ (v : Int) < (u : Int) := by omega
    have hnn : nu ≤ nv := hmono (by omega)
    go_wp2_with fail
    refine (leftN w10 p w7.heap.size (nu + nv) n L HN7.out H10.out (by rw [HL7.out]; omega) (by rw [HL7.out]; omega)).mono ?_
    rintro e w11 ⟨rfl, k, rfl⟩
    go_wp2
    go_ret
    exact ⟨congrArg (fun b => Ending.returned (Value.bool b)) (decide_eq_true (show (nu : Int) ≤ 5 by omega)), (HF10.out.drewN k).below (by simp) (Nat.le_refl _)⟩

end Var
end Go.Proofs.Ythlmodjmdeajiaa
