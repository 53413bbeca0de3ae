/-
  picklocklaw07.BpsRepeats returns true for every input: a copy of the output may run into what it has just written. No condition.
-/
import Derived.Test.YtkefckoffnlkcaaBpsShown
import Derived.Test.YtkefckoffnlkcaaOctSame
import Derived.Deep.DeepCutAuto
namespace Go.Proofs.Ytkefckoffnlkcaa
open Go.RowKit
namespace Bps
open Acts (ActRd)
open Ups (sum)

theorem own_max {w : World} {B n c : Nat} {A : Option Addr} {l : List UInt8} (h : Own w B (.slice A n c) l) : c ≤ maxLen := by
  obtain ⟨_, _, e, _, _, _, h, _⟩ := h.slice
  injection e with e1 e2 e3
  rw [e3]
  exact h

/-- The patch: some bytes, and so many more. -/
def repP (xs : List UInt8) (n : Nat) : Pat := ⟨0, xs.length + n, 0#32, sum (again xs (xs.length + n)), [], [⟨1, xs.length, 0, xs⟩, ⟨3, n, 0, []⟩]⟩
theorem rep_fine (xs : List UInt8) (n : Nat) (h0 : 0 < xs.length) (h1 : xs.length ≤ 20) (h2 : 1 ≤ n) (h3 : n ≤ 5000) : Fine (repP xs n) := by
  refine fine_of (repP xs n) ?_ ?_ (by simp [repP]) (by simp [repP]; omega) (by simp [repP])
  · intro a ha
    simp [repP] at ha
    rcases ha with rfl | rfl
    · exact ⟨by simp, by simp only; omega, by simp only; omega, fun _ => rfl, by simp, by simp, by simp, by simp⟩
    · exact ⟨by simp, h2, by simp only; omega, by simp, by simp, by simp, by simp, by simp⟩
  · simp [repP, total]
theorem sum_nil : sum [] = 0#32 := by decide +kernel
theorem rep_apply (xs : List UInt8) (n : Nat) (h0 : 0 < xs.length) : applyR (repP xs n).i (repP xs n).s1 (repP xs n).s2 (repP xs n).L [] = (0, again xs (xs.length + n)) := by
  exact applyR_ok ⟨rfl, sum_nil⟩ (make_again xs n h0) rfl

set_option maxRecDepth 100000 in
set_option maxHeartbeats 4000000 in
theorem repeats_walk (a0 : Option Addr) (cap0 : Nat) (l : List UInt8) (zn : Int) (w : World) (hr : Rd w a0 l) (hc : a0 = none → cap0 = 0) (hlc : l.length ≤ cap0) (_hcm : cap0 ≤ maxLen) :
    Calls Try.prog 4 #[.slice a0 l.length cap0, .int .i64 zn] w fun e w' => e = .returned (.bool true) ∧ Below w.heap.size w w' := by
  obtain ⟨i0, hi, hz0, hz1, hz2⟩ := info_parts info5
  obtain ⟨N0, hN, hN2⟩ := Mk.below_of zn 5000 (by omega)
  obtain ⟨N, hN1⟩ : ∃ N : Nat, 1 + (N0 : Int) = (N : Int) := ⟨1 + N0, by omega⟩
  have hNp : 1 ≤ N := by omega
  have hNm : N ≤ 5000 := by omega
  have HR := Lib.hid hr
  have HC := Lib.hid hc
  have HL := Lib.hid (take_len l 20 (by omega))
  have hcnt : (min (l.length : Int) 20).toNat ≤ 20 := by omega
  unfold maxLen at _hcm
  clear hr hc
  go_enter Try.func4, Try.ntmps4
  go_wp2_with (first
    | (go_at_call 6; refine (shown7 _).mono ?_; rintro e w1 ⟨rfl, hf1⟩; have HF1 := Lib.hid hf1; have hs1 := hf1.size; clear hf1)
    | (at_builtin; refine wpList_app _ rfl (.tmp 12) (.tmp 17) 23 rfl w.heap.size i0 Try.underlying23 hi hz0 hz1 hz2 (.slice (some ⟨w1.heap.size, 0, none⟩) 0 0) [] rfl (Own.empty w1 _ hs1) a0 _ cap0 (l.take (min (l.length : Int) 20).toNat) rfl HL.out (rd_take (HR.out.later (HF1.out.alloc _) (by simp)) _) HC.out (by simp; omega) (by simp; omega) ?_))
  intro A1 c1 w2 ho2 hf2 hlies
  have HF2 : Hid (Fr [] w w2) := Lib.hid ((HF1.out.alloc _).trans hf2 (by simp [Value.ownBlock]; omega))
  have HM1 : Hid ((l.take (min (l.length : Int) 20).toNat).length = (min (l.length : Int) 20).toNat) := HL.out
  have HX : Hid (Rd w2 A1 (l.take (min (l.length : Int) 20).toNat)) := Lib.hid ho2.rd
  have HXn : Hid (A1 = none → c1 = 0) := Lib.hid (Ref.own_nilcap ho2)
  have hcc := ho2.caps
  have HCc : Hid ((min (l.length : Int) 20).toNat ≤ c1 ∧ c1 ≤ maxLen) := Lib.hid ⟨by have := hcc.1; simp at this; omega, own_max ho2⟩
  clear ho2 hf2 HR HC HL hlc hs1 hlies HF1 hcc
  generalize (min (l.length : Int) 20).toNat = n1 at *
  generalize l.take n1 = x at *
  go_upto_if 21 with fail
  go_cut [0] (fun s0 wx => ∃ AX nx cx xs, s0 = .slice AX nx cx ∧ xs.length = nx ∧ 0 < nx ∧ nx ≤ 20 ∧ Rd wx AX xs ∧ (AX = none → cx = 0) ∧ nx ≤ cx ∧ cx ≤ maxLen ∧ Fr [] w wx)
  case first =>
    by_cases h0 : n1 = 0
    · rw [show ((n1 : Int) == 0) = true by rw [h0]; rfl]
      clear h0
      go_wp2
      go_meet
      exact ⟨some ⟨w2.heap.size, 0, none⟩, 1, 1, [5], rfl, rfl, by omega, by omega, rd_one w2 5, by simp, by omega, by simp [maxLen], HF2.out.alloc _⟩
    · rw [show ((n1 : Int) == 0) = false by simp; omega]
      go_wp2
      go_meet
      exact ⟨A1, n1, c1, x, rfl, HM1.out, by omega, hcnt, HX.out, HXn.out, HCc.out.1, HCc.out.2, HF2.out⟩
  case rest =>
    obtain ⟨AX, nx, cx, xs, rfl, hxl, hx0, hx20, hrx, hcx, hcx1, hcx2, hfx⟩ := hcut
    obtain ⟨w3, rfl⟩ : ∃ w3, w3 = wc := ⟨_, rfl⟩
    have HXL := Lib.hid hxl
    have HRX := Lib.hid hrx
    have HCX := Lib.hid hcx
    have HCX1 := Lib.hid hcx1
    have HCX2 := Lib.hid hcx2
    have HF3 := Lib.hid hfx
    obtain ⟨T, hT⟩ : ∃ T : Nat, (nx : Int) + (N : Int) = (T : Int) := ⟨nx + N, by omega⟩
    have hTn : nx + N = T := by omega
    have hTm : T ≤ 5020 := by omega
    have HTn := Lib.hid hTn
    clear hxl hrx hcx hfx HX HXn HM1 HF2 HCc hcx2 hcx1
    go_wp2_with fail
    go_loopw [6, 7] (fun s6 s7 wr => ∃ (j c : Nat) (A : Option Addr), j ≤ T ∧ s6 = .slice A j c ∧ s7 = .int .i64 (j : Int) ∧ Own wr w3.heap.size (.slice A j c) (again xs j) ∧ Fr [] w3 wr) (fun _ s7 _ => T - (intOf s7).toNat)
    case atStart => exact ⟨0, 0, none, Nat.zero_le _, rfl, rfl, Own.none_ _ _, Fr.refl _ _⟩
    case round =>
      obtain ⟨j, c, A, hj, rfl, rfl, ho, hf⟩ := hrel
      have HO := Lib.hid ho
      have HF := Lib.hid hf
      have hsz := hf.size
      clear ho hf
      by_cases hlt : j < T
      · have hji : (j : Int) < T := by omega
        obtain ⟨q, hq⟩ : ∃ q, j % nx = q := ⟨_, rfl⟩
        have hql : q < nx := by rw [← hq]; exact Nat.mod_lt _ hx0
        have hqi : Int.tmod (j : Int) (nx : Int) = (q : Int) := by rw [Int.tmod_eq_emod_of_nonneg (by omega)]; omega
        have hqi2 : (j : Int) % (nx : Int) = (q : Int) := by omega
        obtain ⟨b, o, v, rfl, hv, hcv⟩ := (HRX.out.later HF.out (by simp)).at q (by rw [HXL.out]; exact hql)
        have HSn : Hid (again xs (j + 1) = again xs j ++ [v]) := Lib.hid (by rw [again_succ, HXL.out, hq, List.getD, hv]; rfl)
        have hql2 : (q : Int) < nx := by omega
        have hn0 : ¬ (nx : Int) = 0 := by omega
        have HLn : Hid ((again xs j).length = j) := Lib.hid (again_length xs j)
        clear hv hq
        go_wp2_with (at_builtin; refine wpList_appN _ rfl (.tmp 35) (.tmp 43) 23 rfl w3.heap.size i0 Try.underlying23 hi hz0 hz1 hz2 (.slice A j c) (again xs j) j HLn.out rfl (HO.out.fr ((Fr.refl [] wr).alloc _) (by simp)) (some ⟨wr.heap.size, 0, none⟩) 1 1 [v] rfl rfl (rd_one wr v) (by simp) (by omega) (by simp; omega) ?_)
        intro A' c' w4 ho4 hf4 _
        have HO4 := Lib.hid ho4
        have HF4 : Hid (Fr [] w3 w4) := Lib.hid ((HF.out.alloc _).trans hf4 (by intro k hk; exact .inr (HO.out.lt k (by simpa using hk)).1))
        clear ho4 hf4
        go_wp2
        go_roundw
        case rel => exact ⟨j + 1, c', A', by omega, rfl, by go_num, by rw [HSn.out]; exact HO4.out, HF4.out⟩
        case measure => simp [intOf]; omega
      · obtain rfl : j = T := by omega
        have hji : ¬ (j : Int) < j := by omega
        have HX4 := Lib.hid (HRX.out.later HF.out (by simp))
        have HFine := rep_fine xs N (by rw [HXL.out]; exact hx0) (by rw [HXL.out]; exact hx20) hNp hNm
        have HApp := Lib.hid (rep_apply xs N (by rw [HXL.out]; exact hx0))
        obtain ⟨W, hW⟩ : ∃ W, again xs j = W := ⟨_, rfl⟩
        have HPt : Hid (repP xs N = ⟨0, j, 0#32, sum W, [], [⟨1, nx, 0, xs⟩, ⟨3, N, 0, []⟩]⟩) := Lib.hid (by unfold repP; rw [HXL.out, hTn, hW])
        rw [HXL.out, hTn, hW] at HApp
        rw [hW] at HO
        have HLW : Hid (W.length = j) := Lib.hid (by rw [← hW, again_length])
        have HFi := Lib.hid HFine
        clear HFine hW HRX
        have hal : Fr [] wr (wr.alloc (.cells (Acts.flat [(⟨1, nx, 0, xs⟩, AX, cx), (⟨3, N, 0, []⟩, none, 0)]).toArray 40)) := (Fr.refl [] wr).alloc _
        have b4 := Blk.fresh wr 40 (Acts.flat [(⟨1, nx, 0, xs⟩, AX, cx), (⟨3, N, 0, []⟩, none, 0)]).toArray
        have HA4 : Hid (ActRd _ (some ⟨wr.heap.size, 0, none⟩) [⟨1, nx, 0, xs⟩, ⟨3, N, 0, []⟩]) := Lib.hid (Acts.rd_blk4 b4 (by
          intro m hm
          simp at hm
          rcases hm with rfl | rfl
          · exact ⟨HX4.out.later hal (by simp), HCX.out, by simp only; rw [HXL.out]; exact HCX1.out, HCX2.out⟩
          · exact ⟨rd_nil _, fun _ => rfl, Nat.le_refl _, by simp [maxLen]⟩))
        obtain ⟨g8, hg8⟩ : ∃ g8, wr.heap.size = g8 := ⟨_, rfl⟩
        have hfl : (Acts.flat [(⟨1, nx, 0, xs⟩, AX, cx), (⟨3, N, 0, []⟩, none, 0)]).toArray = #[.int .i64 1, .int .i64 (nx : Int), .int .i64 0, .slice AX nx cx, .int .i64 3, .int .i64 (N : Int), .int .i64 0, .slice none 0 0] := by rw [← HXL.out]; rfl
        rw [hfl, hg8] at HA4
        rw [hfl] at hal
        have HO4 := Lib.hid (HO.out.fr hal (by simp))
        have HF4 := Lib.hid (HF.out.tr hal)
        clear hal b4 hfl HO HF HX4
        go_wp2_with fail
        generalize wr.alloc _ = w4 at *
        refine (Crc.rsum_any w4 A j c W HLW.out HO4.out.rd (by omega)).mono ?_
        rintro e w5 ⟨rfl, rfl⟩
        obtain ⟨Y, hY⟩ : ∃ Y, Crc.next 0#32 W = Y := ⟨_, rfl⟩
        rw [hY]
        have HWh := Lib.hid (rwhole_ok w4 (repP xs N) none 0 (some ⟨g8, 0, none⟩) 2 HFi.out (by rw [HPt.out]; exact rd_nil _) (fun _ => rfl) (by rw [HPt.out]; exact HA4.out))
        have HPx : Hid (patA (repP xs N) none 0 (some ⟨g8, 0, none⟩) 2 = .agg #[.int .i64 0, .int .i64 (j : Int), .int .u32 0, .int .u32 (Crc.u Y), .slice none 0 0, .slice (some ⟨g8, 0, none⟩) 2 2]) := Lib.hid (by rw [← hY, HPt.out]; rfl)
        rw [HPx.out] at HWh
        obtain ⟨n, hn⟩ : ∃ n, (repP xs N).whole.length = n := ⟨_, rfl⟩
        have hnm : n ≤ 16777216 := by rw [← hn]; exact HFi.out.all
        have Hn := Lib.hid hn
        clear hY hn HPx
        go_wp2_with fail
        refine HWh.out.mono ?_
        rintro e w5 ⟨A5, c5, rfl, ho5, hf5⟩
        rw [Hn.out] at ho5 ⊢
        have HRp := Lib.hid ho5.rd
        have hc5 : n ≤ c5 := ho5.caps.1
        have hm5 := own_max ho5
        have HO5 := Lib.hid (HO4.out.fr hf5 (by simp))
        have HF5 := Lib.hid (HF4.out.tr hf5)
        clear ho5 hf5 HWh HA4 HO4 HF4
        have HAp := Lib.hid (apply_any w5 A5 none n c5 0 0 (repP xs N) [] HFi.out Hn.out HRp.out hc5 hm5 rfl (rd_nil _) (by omega) (fun _ => rfl) (Nat.le_refl _) (by simp [maxLen]))
        rw [HApp.out] at HAp
        go_wp2_with fail
        refine HAp.out.mono ?_
        rintro e w6 ⟨A6, c6, rfl, ho6, hf6⟩
        simp only at ho6 ⊢
        rw [HLW.out] at ho6 ⊢
        have HR6 := Lib.hid ho6.rd
        have HRW := Lib.hid (HO5.out.rd.later hf6 (by simp))
        have HF6 := Lib.hid (HF5.out.tr hf6)
        clear ho6 hf6 HAp
        go_wp2_with fail
        refine (same_eq w6 A6 A j j c6 c W HLW.out HLW.out HR6.out HRW.out).mono ?_
        rintro e w7 ⟨rfl, rfl⟩
        go_wp2
        go_ret
        exact ⟨rfl, ((HF3.out.tr HF6.out).below (by simp) (Nat.le_refl _))⟩

end Bps
end Go.Proofs.Ytkefckoffnlkcaa
