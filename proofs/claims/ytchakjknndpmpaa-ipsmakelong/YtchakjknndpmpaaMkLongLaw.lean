/-
  picklocklaw05.IpsmakeLong returns true for every input: long rows of the same byte, and of unlike ones, are written in parts that records can have. No condition.
-/
import Derived.Test.YtchakjknndpmpaaMkMake
import Derived.Deep.DeepCutAuto
namespace Go.Proofs.Ytchakjknndpmpaa
open Go.RowKit
namespace Ips

set_option maxRecDepth 100000 in
set_option maxHeartbeats 4000000 in
theorem mlong_walk (a0 : Option Addr) (cap0 : Nat) (l : List UInt8) (zn zt : Int) (w : World) (hr : Rd w a0 l) (hc : a0 = none → cap0 = 0) (hlc : l.length ≤ cap0) (_hcm : cap0 ≤ maxLen) :
    Calls Try.prog 6 #[.slice a0 l.length cap0, .int .i64 zn, .int .i64 zt] w fun e w' => e = .returned (.bool true) ∧ Below w.heap.size w w' := by
  obtain ⟨i0, hi, hz0, hz1, hz2⟩ := info_parts info5
  obtain ⟨N, hN, hN2⟩ := below_of zn 150001 (by omega)
  obtain ⟨T, hT, hT2⟩ := place_of zt 100 (by omega)
  have hT' : (bits .and .i64 zt 65535).tmod 101 = (T : Int) := hT
  obtain ⟨M, hM⟩ : ∃ M : Nat, (T : Int) + (N : Int) = (M : Int) := ⟨T + N, by omega⟩
  have hMn : M = T + N := by omega
  have HMn := Lib.hid hMn
  have hM2 : (M : Int) ≤ 150101 := by omega
  have HR := Lib.hid hr
  have HC := Lib.hid hc
  have HL := Lib.hid (take_len l 20 (by omega))
  have hcnt : (min (l.length : Int) 20).toNat ≤ 20 := by omega
  unfold maxLen at _hcm
  clear hr hc hT hMn
  go_enter Try.func6, Try.ntmps6
  go_wp2_with (first
    | (go_at_call 8; refine (shown5 _).mono ?_; rintro e w1 ⟨rfl, hf1⟩; have HF1 := Lib.hid hf1; have hs1 := hf1.size; clear hf1)
    | (at_builtin; refine wpList_app _ rfl (.tmp 18) (.tmp 23) 22 rfl w.heap.size i0 Try.underlying22 hi hz0 hz1 hz2 (.slice (some ⟨w1.heap.size, 0, none⟩) 0 0) [] rfl (Own.empty w1 _ hs1) a0 _ cap0 (l.take (min (l.length : Int) 20).toNat) rfl HL.out (rd_take (HR.out.later (HF1.out.alloc _) (by simp)) _) HC.out (by simp; omega) (by simp; omega) ?_))
  intro A1 c1 w2 ho2 hf2 hlies
  have HF2 : Hid (Fr [] w w2) := Lib.hid ((HF1.out.alloc _).trans hf2 (by simp [Value.ownBlock]; omega))
  have HM1 : Hid ((l.take (min (l.length : Int) 20).toNat).length = (min (l.length : Int) 20).toNat) := HL.out
  have HX : Hid (Rd w2 A1 (l.take (min (l.length : Int) 20).toNat)) := Lib.hid ho2.rd
  have HXn : Hid (A1 = none → c1 = 0) := Lib.hid (by rcases ho2.form0 with ⟨_, _, h⟩ | ⟨g, h⟩; exact fun _ => h; exact fun e => by rw [h] at e; cases e)
  clear ho2 hf2 HR HC HL hlc hs1 hlies HF1
  generalize (min (l.length : Int) 20).toNat = n1 at *
  generalize l.take n1 = x at *
  go_upto_if 27 with fail
  go_cut [0] (fun s0 wx => ∃ AX nx cx xs, s0 = .slice AX nx cx ∧ xs.length = nx ∧ 0 < nx ∧ nx ≤ 20 ∧ Rd wx AX xs ∧ (AX = none → cx = 0) ∧ Fr [] w wx)
  case first =>
    by_cases h0 : n1 = 0
    · rw [show ((n1 : Int) == 0) = true by rw [h0]; rfl]
      clear h0
      go_wp2
      go_meet
      exact ⟨some ⟨w2.heap.size, 0, none⟩, 1, 1, [1], rfl, rfl, by omega, by omega, rd_one w2 1, by simp, HF2.out.alloc _⟩
    · rw [show ((n1 : Int) == 0) = false by simp; omega]
      go_wp2
      go_meet
      exact ⟨A1, n1, c1, x, rfl, HM1.out, by omega, hcnt, HX.out, HXn.out, HF2.out⟩
  case rest =>
    obtain ⟨AX, nx, cx, xs, rfl, hxl, hx0, hx20, hrx, hcx, hfx⟩ := hcut
    obtain ⟨w3, rfl⟩ : ∃ w3, w3 = wc := ⟨_, rfl⟩
    have HXL := Lib.hid hxl
    have HRX := Lib.hid hrx
    have HCX := Lib.hid hcx
    have HF3 := Lib.hid hfx
    clear hxl hrx hcx hfx HX HXn HM1 HF2
    go_wp2_with (at_make; refine wpList_makeB _ rfl _ _ 22 rfl w3.heap.size i0 Try.underlying22 hi hz0 hz1 hz2 _ _ T T rfl rfl (Nat.le_refl _) (by omega) (Nat.le_refl _) ?_)
    intro w4 ho4 hf4
    have HA4 := Lib.hid ho4.rd
    have HF4 : Hid (Fr [] w w4) := Lib.hid (HF3.out.tr hf4)
    have HX4 := Lib.hid (HRX.out.later hf4 (by simp))
    obtain ⟨g4, hg4⟩ : ∃ g4, w3.heap.size = g4 := ⟨_, rfl⟩
    rw [hg4] at HA4 ⊢
    clear ho4 hf4 HRX hg4
    go_wp2_with (at_make; refine wpList_makeB _ rfl _ _ 22 rfl w4.heap.size i0 Try.underlying22 hi hz0 hz1 hz2 _ _ T M rfl rfl (by omega) (by omega) (Nat.le_refl _) ?_)
    intro w5 ho5 hf5
    have HO5 := Lib.hid ho5
    have HF5 := Lib.hid hf5
    clear ho5 hf5
    go_wp2_with fail
    go_loopw [9] (fun s9 wr => ∃ A9 n9 c9 rest, s9 = .slice A9 n9 c9 ∧ n9 = T + rest.length ∧ n9 ≤ M + 20 ∧ Own wr w4.heap.size (.slice A9 n9 c9) (List.replicate T 0 ++ rest) ∧ Fr [] w4 wr) (fun s9 _ => M - lenV s9)
    case atStart => exact ⟨_, T, M, [], rfl, rfl, by omega, by simpa using HO5.out, HF5.out⟩
    case round =>
      obtain ⟨A9, n9, c9, rest, rfl, hn9, hn9b, ho9, hf9⟩ := hrel
      have HO9 := Lib.hid ho9
      have HF9 := Lib.hid hf9
      have HN9 := Lib.hid hn9
      have hlen9 : (List.replicate T (0 : UInt8) ++ rest).length = n9 := by simp; omega
      have HLen9 := Lib.hid hlen9
      clear ho9 hf9 hn9 hlen9
      by_cases hlt : n9 < M
      · have hlt' : (n9 : Int) < M := by omega
        have hs9 := HF9.out.size
        go_wp2_with (at_builtin; refine wpList_appN _ rfl (.tmp 48) (.tmp 49) 22 rfl w4.heap.size i0 Try.underlying22 hi hz0 hz1 hz2 _ (List.replicate T 0 ++ rest) n9 HLen9.out rfl HO9.out AX nx cx xs rfl HXL.out (HX4.out.later HF9.out (by simp)) HCX.out (by omega) hs9 ?_)
        intro A' c' w6 ho6 hf6 hl6
        have HF6 : Hid (Fr [] w4 w6) := Lib.hid (HF9.out.trans hf6 (fun k hk => .inr (HO9.out.lt k (by simpa using hk)).1))
        have HO6 := Lib.hid ho6
        clear ho6 hf6 hl6
        go_wp2
        go_roundw
        case rel => exact ⟨A', n9 + nx, c', rest ++ xs, rfl, by rw [List.length_append, HXL.out]; have := HN9.out; omega, by omega, HO6.out, HF6.out⟩
        case measure => simp [lenV]; omega
      · have hlt' : ¬ (n9 : Int) < M := by omega
        obtain ⟨hc9, hc9'⟩ := HO9.out.caps
        have hMc : (M : Int) ≤ c9 := by omega
        have HY : Hid (Rd wr A9 ((List.replicate T 0 ++ rest).take M)) := Lib.hid (rd_take HO9.out.rd M)
        have HYl : Hid (((List.replicate T (0 : UInt8) ++ rest).take M).length = M) := Lib.hid (by rw [List.length_take, HLen9.out]; omega)
        have HDn : Hid (D (List.replicate T 0) ((List.replicate T 0 ++ rest).take M) M ≤ N) := Lib.hid (by
          rw [HMn.out]
          refine D_from _ _ T N fun i hi => ?_
          rw [List.getElem?_take_of_lt (by omega), List.getElem?_append_left (by simpa using hi)])
        have HA9 := Lib.hid (HA4.out.later HF9.out (by simp))
        have HAl : Hid ((List.replicate T (0 : UInt8)).length = T) := Lib.hid (by simp)
        have HFw : Hid (Fr [] w wr) := Lib.hid (HF4.out.tr HF9.out)
        clear HO9 HF9 HN9 HLen9 HO5 HF5 HA4 HF4 HF3 HX4 HXL HCX
        generalize (List.replicate T 0 ++ rest).take M = y at *
        generalize List.replicate T (0 : UInt8) = x at *
        go_wp2_with fail
        refine (create5 wr (some ⟨g4, 0, none⟩) A9 T T M c9 x y HAl.out HYl.out (by omega) (by omega) HA9.out HY.out (by omega) (by unfold maxLen; omega)).mono ?_
        rintro e w6 ⟨rs, g, hM6, rfl, ho6, hf6⟩
        have HMk := Lib.hid hM6
        have HR6 := Lib.hid ho6.rd
        have HF6 := Lib.hid hf6
        have hL := made_length x y rs hM6
        have hCt := made_count x y rs
        have hEnd := made_end x y rs hM6
        have hDn := HDn.out
        rw [HYl.out] at hL hEnd
        obtain ⟨L, hLe⟩ : ∃ L, (made x y rs).length = L := ⟨_, rfl⟩
        have HLe := Lib.hid hLe
        rw [hLe] at hL hCt ⊢
        have hL2 : (L : Int) ≤ 14 + 6 * (N : Int) := by omega
        have hL3 : L ≤ 1000000 := by omega
        have HX6 := Lib.hid (HA9.out.later hf6 (by simp))
        have HY6 := Lib.hid (HY.out.later hf6 (by simp))
        clear hM6 ho6 hf6 hLe hL hDn HA9 HY HDn
        go_wp2_with fail
        refine (applyM w6 (some ⟨g, 0, none⟩) (some ⟨g4, 0, none⟩) L L T T x y rs HMk.out HLe.out HR6.out (by omega) HAl.out (by omega) (by rw [HYl.out]; omega) HX6.out).mono ?_
        rintro e w7 ⟨A7, c7, rfl, hr7, -, -, -, hf7⟩
        simp only at hr7 ⊢
        rw [HYl.out]
        have HR7 := Lib.hid hr7
        have HF7 := Lib.hid hf7
        clear hr7 hf7
        go_wp2_with fail
        refine (refparseM w7 (some ⟨g, 0, none⟩) L L x y rs HMk.out HLe.out (HR6.out.later HF7.out (by simp)) (Nat.le_refl _) (by omega) (by rw [HAl.out]; omega)).mono ?_
        rintro e w8 ⟨A8, c8, rfl, hr8, hf8⟩
        simp only at hr8 ⊢
        have HR8 := Lib.hid hr8
        have HF8 := Lib.hid hf8
        obtain ⟨q, hq⟩ : ∃ q, rs.length = q := ⟨_, rfl⟩
        have HQ := Lib.hid hq
        rw [hq] at hCt ⊢
        generalize cutOf x y = cut
        obtain ⟨rc, hrc⟩ : ∃ rc, reach 0 rs = rc := ⟨_, rfl⟩
        have HRc : Hid (Calls Try.prog 11 #[.slice A8 q c8] w8 fun e w' => e = .returned (.int .i64 (rc : Int)) ∧ Fr [] w8 w') := Lib.hid (by rw [← hrc]; exact refend_any w8 A8 q c8 rs HQ.out HR8.out (made_fits HMk.out) (by omega))
        rw [hrc] at hEnd
        have hrc' : (rc : Int) ≤ M := by omega
        have k1 := run_str (P := Try.prog) (w := w8) 22 9 5 (cap := c7) Try.underlying22 Try.underlying5 Try.underlying9 (HR7.out.later hf8 (by simp))
        have k2 := run_str (P := Try.prog) (w := w8) 22 9 5 (cap := c9) Try.underlying22 Try.underlying5 Try.underlying9 (HY6.out.later (HF7.out.tr hf8) (by simp))
        rw [HYl.out] at k1 k2
        clear hr8 hf8 hq hrc
        go_wp2_with fail
        refine HRc.out.mono ?_
        rintro e w9 ⟨rfl, hf9⟩
        have HF9 := Lib.hid hf9
        clear hf9 HRc k1 k2
        go_wp2
        go_ret
        exact ⟨rfl, ((((HFw.out.tr HF6.out).tr HF7.out).tr HF8.out).tr HF9.out).below (by simp) (Nat.le_refl _)⟩

end Ips
end Go.Proofs.Ytchakjknndpmpaa
