/-
  Contract of the document's own Make of layer 7 (picklockref07): what actions make of bytes.
-/
import Derived.Test.YtokfcknfkhlmfaaBpsActs
import Derived.Test.YtokfcknfkhlmfaaBpsRunMath
import Derived.Deep.DeepCutAuto
import Derived.StillTailTactics
namespace Go.Proofs.Ytokfcknfkhlmfaa
open Go.RowKit
namespace Bps
open Acts (ActRd)

/-- What Make leaves. -/
def MadeD (w : World) (r : Option (List UInt8)) (e : Ending) (w' : World) : Prop :=
  ∃ A c out b, e = .returned (.tuple #[.slice A out.length c, .bool b]) ∧ Own w' w.heap.size (.slice A out.length c) out ∧ (∀ l, r = some l → out = l ∧ b = true) ∧ (r = none → out = []) ∧ Fr [] w w'

/-- Both places, as they lie there. -/
def plV (st : St) : Array Value := #[.int .i64 st.s, .int .i64 st.t]

/-- What holds between two bytes of an action. -/
structure MkI (w : World) (s : Nat) (x : List UInt8) (a : Act) (st1 : St) (v : Value) (wr : World) (k : Nat) (st : St) : Prop where
  runs : runs a.kind x a.data st1 k = some st
  own : Own wr s v st.out
  pl : Blk wr (s + 1) 84 (plV st)
  fr : Fr [] w wr

set_option maxRecDepth 100000 in
set_option maxHeartbeats 4000000 in
theorem rmake_any (w : World) (A : Option Addr) (n c : Nat) (X : Option Addr) (xn xc : Nat) (L : List Act) (x : List UInt8) (hn : L.length = n) (hA : ActRd w A L) (hok : ∀ a ∈ L, Ok a) (htot : total L ≤ 10000) (hxn : x.length = xn) (hx : Rd w X x) (hxm : xn ≤ 10000) :
    Calls Try.prog 11 #[.slice A n c, .slice X xn xc] w (MadeD w (makeA L x)) := by
  obtain ⟨i0, hi0, hz0, hz1, hz2⟩ := info_parts info5
  have HA := Lib.hid hA
  have Hn := Lib.hid hn
  have Hok := Lib.hid hok
  have HX := Lib.hid hx
  have Hxn := Lib.hid hxn
  have Htot := Lib.hid htot
  have hnm : n ≤ 10000 := by have := total_ge L (fun a ha => (hok a ha).pos); omega
  obtain ⟨R, hR⟩ : ∃ R, makeA L x = R := ⟨_, rfl⟩
  rw [hR]
  have HR := Lib.hid hR
  have HQn : Hid (∀ W, R = none → Fr [] w W → MadeD w R (.returned (.tuple #[.slice none 0 0, .bool false])) W) := Lib.hid fun W h1 h2 => ⟨none, 0, [], false, rfl, Own.none_ _ _, fun l h => (by rw [h1] at h; cases h), fun _ => rfl, h2⟩
  have HQs : Hid (∀ W A c m out, R = some out → out.length = m → Own W w.heap.size (.slice A m c) out → Fr [] w W → MadeD w R (.returned (.tuple #[.slice A m c, .bool true])) W) := Lib.hid fun W A c m out h1 hm h2 h3 => ⟨A, c, out, true, by rw [hm], by rw [hm]; exact h2, fun l h => (by rw [h1] at h; cases h; exact ⟨rfl, rfl⟩), fun h => (by rw [h1] at h; cases h), h3⟩
  generalize MadeD w R = Q at *
  obtain ⟨s, hs⟩ : ∃ s, w.heap.size = s := ⟨_, rfl⟩
  have Hs := Lib.hid hs
  rw [hs] at HQs
  have hw1 : (w.alloc (.cells #[] 5)).heap.size = s + 1 := by simp [hs]
  have HP0 : Hid (Blk ((w.alloc (.cells #[] 5)).alloc (.cells #[.int .i64 0, .int .i64 0] 84)) (s + 1) 84 (plV ⟨[], 0, 0⟩)) := Lib.hid (by have h := Blk.fresh (w.alloc (.cells #[] 5)) 84 #[.int .i64 0, .int .i64 0]; rw [hw1] at h; exact h)
  have HO0 : Hid (Own ((w.alloc (.cells #[] 5)).alloc (.cells #[.int .i64 0, .int .i64 0] 84)) s (.slice (some ⟨s, 0, none⟩) 0 0) []) := Lib.hid (by have h := Own.empty w s (by omega); rw [hs] at h; exact h.fr ((Fr.refl [] _).alloc _) (by simp))
  have HF0 : Hid (Fr [] w ((w.alloc (.cells #[] 5)).alloc (.cells #[.int .i64 0, .int .i64 0] 84))) := Lib.hid (((Fr.refl [] w).alloc _).alloc _)
  clear hA hn hok hx hxn htot hR hw1
  go_enter Try.func11, Try.ntmps11
  go_wp2_with fail
  generalize (w.alloc (.cells #[] 5)).alloc _ = w0 at *
  go_loopw [6, 8] (fun s6 s8 wr => ∃ (j m cc : Nat) (A' : Option Addr) (st : St), s6 = .slice A' m cc ∧ s8 = .int .i64 (j : Int) ∧ j ≤ n ∧ acts x (L.take j) ⟨[], 0, 0⟩ = some st ∧ st.out.length = m ∧ Own wr s (.slice A' m cc) st.out ∧ Blk wr (s + 1) 84 (plV st) ∧ Fr [] w wr) (fun _ s8 _ => n - (intOf s8).toNat)
  case atStart => exact ⟨0, 0, 0, some ⟨s, 0, none⟩, ⟨[], 0, 0⟩, rfl, rfl, Nat.zero_le _, rfl, rfl, HO0.out, HP0.out, HF0.out⟩
  case round =>
    obtain ⟨j, m, cc, A', st, rfl, rfl, hj, hac, hm, hO, hP, hF⟩ := hrel
    have HAc := Lib.hid hac
    have Hm := Lib.hid hm
    have HO := Lib.hid hO
    have HP := Lib.hid hP
    have HF := Lib.hid hF
    clear hac hm hO hP hF HO0 HP0 HF0
    by_cases hlt : j < n
    · have e1 : (j : Int) < n := by omega
      have hltL : j < L.length := by rw [Hn.out]; exact hlt
      obtain ⟨b, o, rfl, hcell⟩ := HA.out (by omega)
      obtain ⟨D, cD, k0, k1, k2, k3, hD, hDn, hDc, hDm⟩ := hcell j hltL
      have ha := Hok.out L[j] (List.getElem_mem hltL)
      have hst := acts_step x L j hltL ⟨[], 0, 0⟩ st HAc.out
      have hbd1 := acts_bound (l := L.take j) (fun a h => Hok.out a (List.mem_of_mem_take h)) HAc.out 0 (by simp) (by simp) (by simp) (by simp)
      have hjl : (L.take j).length = j := by rw [List.length_take]; omega
      rw [hjl] at hbd1
      have hol : st.out.length + L[j].len ≤ 10000 := by
        have h1 := acts_length HAc.out
        have h2 := total_take L (j + 1)
        have h3 := Htot.out
        rw [List.take_succ_eq_append_getElem hltL, total_append] at h2
        simp only [total, List.length_nil] at h1 h2
        omega
      obtain ⟨a, haa⟩ : ∃ a, L[j] = a := ⟨_, rfl⟩
      rw [haa] at k0 k1 k2 k3 hD ha hst hol hDc
      have hbs : b < s := by have := World.block_lt_of_cell? w _ k0; have := Hs.out; simp_all
      have HNone : Hid (act1 x a st = none → R = none) := Lib.hid fun h => by
        rw [← HR.out]
        unfold makeA
        rw [acts_none_take x L _ (j + 1) (by rw [hst, h])]
        rfl
      have HSome : Hid (∀ st2, act1 x a st = some st2 → acts x (L.take (j + 1)) ⟨[], 0, 0⟩ = some st2) := Lib.hid fun st2 h => by rw [hst, h]
      have hmo := moved_out a st
      have HA1 : Hid (act1 x a st = runs a.kind x a.data (moved a st) a.len) := Lib.hid rfl
      have hkk := ha.kind
      have hlow := ha.low
      have hhigh := ha.high
      have hlen := ha.len
      have hpos := ha.pos
      have hda1 := ha.data
      have HD := Lib.hid hD
      have HMv : Hid (moved a st = ⟨st.out, if a.kind = 2 then st.s + a.move else st.s, if a.kind = 3 then st.t + a.move else st.t⟩) := Lib.hid (by unfold moved; by_cases h2 : a.kind = 2; simp [h2]; by_cases h3 : a.kind = 3; simp [h3]; simp [h2, h3])
      obtain ⟨st1, hst1⟩ : ∃ st1, moved a st = st1 := ⟨_, rfl⟩
      rw [hst1] at HMv HA1 hmo
      rw [HA1.out] at HNone HSome
      obtain ⟨kd, ln, mv, da⟩ := a
      simp only at k0 k1 k2 k3 HD hDc hol HNone HSome HMv hkk hlow hhigh hlen hpos hda1
      obtain ⟨sS, hsS⟩ : ∃ sS, st.s = sS := ⟨_, rfl⟩
      obtain ⟨sT, hsT⟩ : ∃ sT, st.t = sT := ⟨_, rfl⟩
      rw [hsS, hsT] at hbd1 HMv
      have hp := HP.out
      unfold plV at hp
      rw [hsS, hsT] at hp
      have p0 : wr.cell? ⟨s + 1, 0, none⟩ = some (.int .i64 sS) := by rw [hp.cell]; rfl
      have p1 : wr.cell? ⟨s + 1, 1, none⟩ = some (.int .i64 sT) := by rw [hp.cell]; rfl
      have f0 := hp.frozen 0
      have f1 := hp.frozen 1
      have HPp := Lib.hid hp
      have w1 : IntKind.i64.wrap (sS + mv) = sS + mv := by rw [IntKind.wrap_i64]; omega
      have w2 : IntKind.i64.wrap (sT + mv) = sT + mv := by rw [IntKind.wrap_i64]; omega
      have HKc : Hid (∀ W, Fr [] w W → W.cell? ⟨b, o + j * 4, none⟩ = some (.int .i64 (kd : Int)) ∧ W.cell? ⟨b, o + j * 4 + 1, none⟩ = some (.int .i64 (ln : Int)) ∧ W.cell? ⟨b, o + j * 4 + 2, none⟩ = some (.int .i64 mv) ∧ W.cell? ⟨b, o + j * 4 + 3, none⟩ = some (.slice D da.length cD)) := Lib.hid fun W hW => ⟨hW.cell k0 (by simp), hW.cell k1 (by simp), hW.cell k2 (by simp), hW.cell k3 (by simp)⟩
      obtain ⟨c0, c1, c2, c3⟩ := HKc.out wr HF.out
      clear hcell hD ha hst hjl haa hp hst1 HA1 hsS hsT k0 k1 k2 k3
      go_upto_if 24 with fail
      go_cut [25] (fun _ wx => Blk wx (s + 1) 84 (plV st1) ∧ Fr [s + 1] wr wx)
      case first =>
        rcases (by omega : kd = 0 ∨ kd = 1 ∨ kd = 2 ∨ kd = 3) with rfl | rfl | rfl | rfl
        · go_wp2_with fail
          go_meet
          rw [HMv.out]
          exact ⟨HPp.out, Fr.refl _ _⟩
        · go_wp2_with fail
          go_meet
          rw [HMv.out]
          exact ⟨HPp.out, Fr.refl _ _⟩
        · go_wp2_with fail
          have hw0 : IntKind.i64.wrap 0 = 0 := by decide
          go_still_tail 21, (by kernel_rfl)
          change wpList _ _ _ _ _ wr.drew
          go_wp2_with fail
          go_meet
          rw [HMv.out]
          have hbp := HPp.out.put 0 (.int .i64 (sS + mv))
          simp only [List.setIfInBounds_toArray, List.set_cons_zero] at hbp
          exact ⟨hbp.fr ((Fr.refl [] _).drew) (by simp), ((Fr.refl [s + 1] wr).setCell (by simp) _).drew⟩
        · go_wp2_with fail
          have hw0 : IntKind.i64.wrap 1 = 1 := by decide
          go_still_tail 21, (by kernel_rfl)
          change wpList _ _ _ _ _ wr.drew
          go_wp2_with fail
          go_meet
          rw [HMv.out]
          have hbp := HPp.out.put 1 (.int .i64 (sT + mv))
          simp only [List.setIfInBounds_toArray, List.set_cons_zero, List.set_cons_succ] at hbp
          exact ⟨hbp.fr ((Fr.refl [] _).drew) (by simp), ((Fr.refl [s + 1] wr).setCell (by simp) _).drew⟩
      case rest =>
        obtain ⟨hP1, hF1⟩ := hcut
        obtain ⟨w1', rfl⟩ : ∃ w1', w1' = wc := ⟨_, rfl⟩
        have HP1 := Lib.hid hP1
        have HO1 := Lib.hid (HO.out.fr hF1 (fun k hk hm => by simp at hm; subst hm; exact HO.out.other HPp.out (by decide) hk))
        have HF1 : Hid (Fr [] w w1') := Lib.hid (HF.out.trans hF1 (by simp [Hs.out]))
        have hs1b : st1.s = (if kd = 2 then sS + mv else sS) := by rw [HMv.out]
        have ht1b : st1.t = (if kd = 3 then sT + mv else sT) := by rw [HMv.out]
        have hq1 : -200000000000000 ≤ st1.s ∧ st1.s ≤ 200000000000000 := by rw [hs1b]; split <;> omega
        have hq2 : -200000000000000 ≤ st1.t ∧ st1.t ≤ 200000000000000 := by rw [ht1b]; split <;> omega
        have hm1 : st1.out.length = m := by rw [hmo, Hm.out]
        have hmo2 := Lib.hid hmo
        have hol' : m + ln ≤ 10000 := by rw [← Hm.out]; exact hol
        have Hda1 := Lib.hid hda1
        clear hP1 hF1 HP HPp HO HF c0 c1 c2 c3 p0 p1 f0 f1 w1 w2 hs1b ht1b hbd1 hol HMv hmo hda1
        go_wp2_with fail
        go_loopw [6, 9] (fun s6 s9 wl => ∃ (k m' cc' : Nat) (A9 : Option Addr) (st' : St), s6 = .slice A9 m' cc' ∧ s9 = .int .i64 (k : Int) ∧ k ≤ ln ∧ runs kd x da st1 k = some st' ∧ st'.out.length = m' ∧ Own wl s (.slice A9 m' cc') st'.out ∧ Blk wl (s + 1) 84 (plV st') ∧ Fr [] w wl) (fun _ s9 _ => ln - (intOf s9).toNat)
        case atStart => exact ⟨0, m, cc, A', st1, rfl, rfl, Nat.zero_le _, rfl, hm1, by rw [hmo2.out]; exact HO1.out, HP1.out, HF1.out⟩
        case round =>
          obtain ⟨k, m', cc', A9, st', rfl, rfl, hk, hrun, hm', hO', hP', hF'⟩ := hrel
          obtain ⟨c0, c1, c2, c3⟩ := HKc.out wr hF'
          have HRun := Lib.hid hrun
          have Hm' := Lib.hid hm'
          have HO' := Lib.hid hO'
          have HP' := Lib.hid hP'
          have HF' := Lib.hid hF'
          have hpl := runs_places hkk hrun
          have hml : m' + (ln - k) ≤ 10000 := by rw [← hm', hpl.1, hm1]; omega
          have hss : s < wr.heap.size := by have := hP'.lt; omega
          clear hrun hm' hO' hP' hF' HO1 HP1 HF1
          by_cases hlt2 : k < ln
          · have e2 : (k : Int) < ln := by omega
            have hk1' : k + 1 ≤ ln := by omega
            rcases (by omega : kd = 0 ∨ kd = 1 ∨ kd = 2 ∨ kd = 3) with rfl | rfl | rfl | rfl
            · obtain ⟨q, hmq⟩ : ∃ q : Int, (m' : Int) = q := ⟨_, rfl⟩
              have hat : at_ 0 st' k = q := by rw [← hmq, ← Hm'.out]; rfl
              have hsrc : (src 0 x da st'.out).length = xn := Hxn.out
              have hq0 : ¬ q < 0 := by omega
              by_cases hqn : (xn : Int) ≤ q
              · have HN := Lib.hid (HNone.out (runs_stuck 0 (by decide) x da st1 st' k ln q HRun.out ((runs_at (by decide) HRun.out).symm.trans hat) (.inr (by rw [hsrc]; exact hqn)) hlt2))
                have HE := Lib.hid (HQn.out wr HN.out HF'.out)
                clear hat hsrc
                go_wp2
                exact HE.out
              have hqn' : q < (xn : Int) := by omega
              have Hat := Lib.hid hat
              clear hat hsrc
              go_upto_region 22 with fail
              subst hmq
              try rw [show decide ((m' : Int) < 0) = false by simp]
              try rw [show decide ((xn : Int) ≤ (m' : Int)) = false by simp; omega]
              obtain ⟨bx, ox, v, rfl, hv, cv⟩ := (HX.out.later HF'.out (by simp)).at m' (by rw [Hxn.out]; omega)
              have HSt : Hid (runs 0 x da st1 (k + 1) = some ⟨st'.out ++ [v], st'.s, st'.t⟩) := Lib.hid (by rw [runs_succ, HRun.out, Option.bind_some, byte1_src 0 (by decide), Hat.out, if_pos (by omega), Int.toNat_natCast, show (src 0 x da st'.out)[m']? = some v from hv]; rfl)
              have hvn : (m' : Int) < xn := by omega
              have HO5 := HO'
              have HP5 := HP'
              have HF5 := HF'
              obtain ⟨w5, hw5⟩ : ∃ w5, w5 = wr := ⟨_, rfl⟩
              subst hw5
              clear hv hq0 hqn hqn'
              have hs5 : s ≤ w5.heap.size := by rw [← Hs.out]; exact HF5.out.size
              have HNl : Hid ((st'.out ++ [v]).length = m' + 1) := Lib.hid (by simp [Hm'.out])
              go_wp2_with (at_builtin; refine wpList_appN _ rfl (.tmp 113) (.tmp 118) 22 rfl s i0 Try.underlying22 hi0 hz0 hz1 hz2 (.slice A9 m' cc') st'.out m' Hm'.out rfl (HO5.out.fr ((Fr.refl [] w5).alloc _) (by simp)) (some ⟨w5.heap.size, 0, none⟩) 1 1 [v] rfl rfl (rd_one w5 v) (by simp) (by omega) (by simp; omega) ?_)
              intro A10 c10 w10 ho10 hf10 _
              have HO10 := Lib.hid ho10
              have hx10 : ∀ k ∈ (Value.slice A9 m' cc').ownBlock.toList, s ≤ k ∧ k ≠ s + 1 := fun k hk => ⟨(HO5.out.lt k (by simpa using hk)).1, fun e => by subst e; exact HO5.out.other HP5.out (by decide) (by simpa using hk)⟩
              have HF10 : Hid (Fr [] w w10) := Lib.hid ((HF5.out.alloc _).trans hf10 (fun k hk => .inr (by have := (hx10 k hk).1; have := Hs.out; omega)))
              have HP10 := Lib.hid ((HP5.out.fr ((Fr.refl [] w5).alloc _) (by simp)).fr hf10 (fun hm => (hx10 _ hm).2 rfl))
              clear ho10 hf10 hx10
              go_wp2
              go_roundw
              case rel => exact ⟨k + 1, m' + 1, c10, A10, _, rfl, by go_num, hk1', HSt.out, HNl.out, HO10.out, HP10.out, HF10.out⟩
              case measure => simp [intOf]; omega
            · have hdl := Hda1.out rfl
              obtain ⟨bD, oD, v, rfl, hv, cv⟩ := (HD.out.later HF'.out (by simp)).at k (by omega)
              have HSt : Hid (runs 1 x da st1 (k + 1) = some ⟨st'.out ++ [v], st'.s, st'.t⟩) := Lib.hid (by rw [runs_succ, HRun.out, Option.bind_some, byte1_1, hv]; rfl)
              have hkd : (k : Int) < da.length := by omega
              clear hv
              go_wp2_with (at_builtin; refine wpList_appN _ rfl (.tmp 61) (.tmp 70) 22 rfl s i0 Try.underlying22 hi0 hz0 hz1 hz2 (.slice A9 m' cc') st'.out m' Hm'.out rfl (HO'.out.fr ((Fr.refl [] wr).alloc _) (by simp)) (some ⟨wr.heap.size, 0, none⟩) 1 1 [v] rfl rfl (rd_one wr v) (by simp) (by omega) (by simp; omega) ?_)
              intro A10 c10 w10 ho10 hf10 _
              have HO10 := Lib.hid ho10
              have hx10 : ∀ k ∈ (Value.slice A9 m' cc').ownBlock.toList, s ≤ k ∧ k ≠ s + 1 := fun k hk => ⟨(HO'.out.lt k (by simpa using hk)).1, fun e => by subst e; exact HO'.out.other HP'.out (by decide) (by simpa using hk)⟩
              have HF10 : Hid (Fr [] w w10) := Lib.hid ((HF'.out.alloc _).trans hf10 (fun k hk => .inr (by have := (hx10 k hk).1; have := Hs.out; omega)))
              have HP10 := Lib.hid ((HP'.out.fr ((Fr.refl [] wr).alloc _) (by simp)).fr hf10 (fun hm => (hx10 _ hm).2 rfl))
              clear ho10 hf10 hx10
              go_wp2
              go_roundw
              case rel => exact ⟨k + 1, m' + 1, c10, A10, _, rfl, by go_num, hk1', HSt.out, by simp [Hm'.out], HO10.out, HP10.out, HF10.out⟩
              case measure => simp [intOf]; omega
            · obtain ⟨q, hmq⟩ : ∃ q : Int, st'.s = q := ⟨_, rfl⟩
              have hat : at_ 2 st' k = q := hmq
              have hsrc : (src 2 x da st'.out).length = xn := Hxn.out
              have hqb : -300000000000000 ≤ q ∧ q ≤ 300000000000000 := by rw [← hmq, hpl.2.1]; simp only [if_pos]; omega
              have hp := HP'.out
              unfold plV at hp
              rw [hmq] at hp
              have p0 : wr.cell? ⟨s + 1, 0, none⟩ = some (.int .i64 q) := by rw [hp.cell]; rfl
              have f0 := hp.frozen 0
              have hwq : IntKind.i64.wrap (q + 1) = q + 1 := by rw [IntKind.wrap_i64]; omega
              have hst : Fr [s + 1] wr (wr.setCell ⟨s + 1, 0, none⟩ (.int .i64 (q + 1))) := (Fr.refl [s + 1] wr).setCell (by simp) _
              have HF5 : Hid (Fr [] w (wr.setCell ⟨s + 1, 0, none⟩ (.int .i64 (q + 1)))) := Lib.hid (HF'.out.trans hst (by simp [Hs.out]))
              have HO5 := Lib.hid (HO'.out.fr hst (fun k hk hm => by simp at hm; subst hm; exact HO'.out.other HP'.out (by decide) hk))
              have HP5 : Hid (Blk (wr.setCell ⟨s + 1, 0, none⟩ (.int .i64 (q + 1))) (s + 1) 84 #[.int .i64 (q + 1), .int .i64 st'.t]) := Lib.hid (by
                have hbp := hp.put 0 (.int .i64 (q + 1))
                simpa only [List.setIfInBounds_toArray, List.set_cons_zero, List.set_cons_succ] using hbp)
              by_cases hbad : q < 0 ∨ (xn : Int) ≤ q
              · have HN := Lib.hid (HNone.out (runs_stuck 2 (by decide) x da st1 st' k ln q HRun.out ((runs_at (by decide) HRun.out).symm.trans hat) (by rw [hsrc]; exact hbad) hlt2))
                have HE := Lib.hid (HQn.out _ HN.out HF5.out)
                clear hat hsrc hp hst
                by_cases hq0 : q < 0
                · go_wp2
                  exact HE.out
                · have hqn : (xn : Int) ≤ q := by omega
                  go_wp2
                  exact HE.out
              have hq0 : ¬ q < 0 := by omega
              have hqn : ¬ (xn : Int) ≤ q := by omega
              have hqn' : q < (xn : Int) := by omega
              have Hat := Lib.hid hat
              have Hmq := Lib.hid hmq
              clear hat hsrc hp hst hbad hmq
              go_upto_region 22 with fail
              generalize wr.setCell ⟨s + 1, 0, none⟩ (.int .i64 (q + 1)) = w5 at *
              obtain ⟨P, hP⟩ : ∃ P : Nat, q = P := ⟨q.toNat, by omega⟩
              subst hP
              try rw [show decide ((P : Int) < 0) = false by simp]
              try rw [show decide ((xn : Int) ≤ (P : Int)) = false by simp; omega]
              obtain ⟨bx, ox, v, rfl, hv, cv⟩ := (HX.out.later HF5.out (by simp)).at P (by rw [Hxn.out]; omega)
              have HSt : Hid (runs 2 x da st1 (k + 1) = some ⟨st'.out ++ [v], (P : Int) + 1, st'.t⟩) := Lib.hid (by rw [runs_succ, HRun.out, Option.bind_some, byte1_src 2 (by decide), Hat.out, if_pos (by omega), Int.toNat_natCast, show (src 2 x da st'.out)[P]? = some v from hv]; simp [Hmq.out])
              have hvn : (P : Int) < xn := by omega
              clear hv hq0 hqn hqn' p0 f0
              have hs5 : s ≤ w5.heap.size := by rw [← Hs.out]; exact HF5.out.size
              have HNl : Hid ((st'.out ++ [v]).length = m' + 1) := Lib.hid (by simp [Hm'.out])
              go_wp2_with (at_builtin; refine wpList_appN _ rfl (.tmp 113) (.tmp 118) 22 rfl s i0 Try.underlying22 hi0 hz0 hz1 hz2 (.slice A9 m' cc') st'.out m' Hm'.out rfl (HO5.out.fr ((Fr.refl [] w5).alloc _) (by simp)) (some ⟨w5.heap.size, 0, none⟩) 1 1 [v] rfl rfl (rd_one w5 v) (by simp) (by omega) (by simp; omega) ?_)
              intro A10 c10 w10 ho10 hf10 _
              have HO10 := Lib.hid ho10
              have hx10 : ∀ k ∈ (Value.slice A9 m' cc').ownBlock.toList, s ≤ k ∧ k ≠ s + 1 := fun k hk => ⟨(HO5.out.lt k (by simpa using hk)).1, fun e => by subst e; exact HO5.out.other HP5.out (by decide) (by simpa using hk)⟩
              have HF10 : Hid (Fr [] w w10) := Lib.hid ((HF5.out.alloc _).trans hf10 (fun k hk => .inr (by have := (hx10 k hk).1; have := Hs.out; omega)))
              have HP10 := Lib.hid ((HP5.out.fr ((Fr.refl [] w5).alloc _) (by simp)).fr hf10 (fun hm => (hx10 _ hm).2 rfl))
              clear ho10 hf10 hx10
              go_wp2
              go_roundw
              case rel => exact ⟨k + 1, m' + 1, c10, A10, _, rfl, by go_num, hk1', HSt.out, HNl.out, HO10.out, HP10.out, HF10.out⟩
              case measure => simp [intOf]; omega
            · obtain ⟨q, hmq⟩ : ∃ q : Int, st'.t = q := ⟨_, rfl⟩
              have hat : at_ 3 st' k = q := hmq
              have hsrc : (src 3 x da st'.out).length = m' := Hm'.out
              have hqb : -300000000000000 ≤ q ∧ q ≤ 300000000000000 := by rw [← hmq, hpl.2.2]; simp only [if_pos]; omega
              have hp := HP'.out
              unfold plV at hp
              rw [hmq] at hp
              have p0 : wr.cell? ⟨s + 1, 1, none⟩ = some (.int .i64 q) := by rw [hp.cell]; rfl
              have f0 := hp.frozen 1
              have hwq : IntKind.i64.wrap (q + 1) = q + 1 := by rw [IntKind.wrap_i64]; omega
              have hst : Fr [s + 1] wr (wr.setCell ⟨s + 1, 1, none⟩ (.int .i64 (q + 1))) := (Fr.refl [s + 1] wr).setCell (by simp) _
              have HF5 : Hid (Fr [] w (wr.setCell ⟨s + 1, 1, none⟩ (.int .i64 (q + 1)))) := Lib.hid (HF'.out.trans hst (by simp [Hs.out]))
              have HO5 := Lib.hid (HO'.out.fr hst (fun k hk hm => by simp at hm; subst hm; exact HO'.out.other HP'.out (by decide) hk))
              have HP5 : Hid (Blk (wr.setCell ⟨s + 1, 1, none⟩ (.int .i64 (q + 1))) (s + 1) 84 #[.int .i64 st'.s, .int .i64 (q + 1)]) := Lib.hid (by
                have hbp := hp.put 1 (.int .i64 (q + 1))
                simpa only [List.setIfInBounds_toArray, List.set_cons_zero, List.set_cons_succ] using hbp)
              by_cases hbad : q < 0 ∨ (m' : Int) ≤ q
              · have HN := Lib.hid (HNone.out (runs_stuck 3 (by decide) x da st1 st' k ln q HRun.out ((runs_at (by decide) HRun.out).symm.trans hat) (by rw [hsrc]; exact hbad) hlt2))
                have HE := Lib.hid (HQn.out _ HN.out HF5.out)
                clear hat hsrc hp hst
                by_cases hq0 : q < 0
                · go_wp2
                  exact HE.out
                · have hqn : (m' : Int) ≤ q := by omega
                  go_wp2
                  exact HE.out
              have hq0 : ¬ q < 0 := by omega
              have hqn : ¬ (m' : Int) ≤ q := by omega
              have hqn' : q < (m' : Int) := by omega
              have Hat := Lib.hid hat
              have Hmq := Lib.hid hmq
              clear hat hsrc hp hst hbad hmq
              go_upto_region 22 with fail
              generalize wr.setCell ⟨s + 1, 1, none⟩ (.int .i64 (q + 1)) = w5 at *
              obtain ⟨P, hP⟩ : ∃ P : Nat, q = P := ⟨q.toNat, by omega⟩
              subst hP
              try rw [show decide ((P : Int) < 0) = false by simp]
              try rw [show decide ((m' : Int) ≤ (P : Int)) = false by simp; omega]
              obtain ⟨bx, ox, v, rfl, hv, cv⟩ := HO5.out.rd.at P (by rw [Hm'.out]; omega)
              have HSt : Hid (runs 3 x da st1 (k + 1) = some ⟨st'.out ++ [v], st'.s, (P : Int) + 1⟩) := Lib.hid (by rw [runs_succ, HRun.out, Option.bind_some, byte1_src 3 (by decide), Hat.out, if_pos (by omega), Int.toNat_natCast, show (src 3 x da st'.out)[P]? = some v from hv]; simp [Hmq.out])
              have hvn : (P : Int) < m' := by omega
              clear hv hq0 hqn hqn' p0 f0
              have hs5 : s ≤ w5.heap.size := by rw [← Hs.out]; exact HF5.out.size
              have HNl : Hid ((st'.out ++ [v]).length = m' + 1) := Lib.hid (by simp [Hm'.out])
              go_wp2_with (at_builtin; refine wpList_appN _ rfl (.tmp 113) (.tmp 118) 22 rfl s i0 Try.underlying22 hi0 hz0 hz1 hz2 (.slice (some ⟨bx, ox, none⟩) m' cc') st'.out m' Hm'.out rfl (HO5.out.fr ((Fr.refl [] w5).alloc _) (by simp)) (some ⟨w5.heap.size, 0, none⟩) 1 1 [v] rfl rfl (rd_one w5 v) (by simp) (by omega) (by simp; omega) ?_)
              intro A10 c10 w10 ho10 hf10 _
              have HO10 := Lib.hid ho10
              have hx10 : ∀ k ∈ (Value.slice (some ⟨bx, ox, none⟩) m' cc').ownBlock.toList, s ≤ k ∧ k ≠ s + 1 := fun k hk => ⟨(HO5.out.lt k (by simpa using hk)).1, fun e => by subst e; exact HO5.out.other HP5.out (by decide) (by simpa using hk)⟩
              have HF10 : Hid (Fr [] w w10) := Lib.hid ((HF5.out.alloc _).trans hf10 (fun k hk => .inr (by have := (hx10 k hk).1; have := Hs.out; omega)))
              have HP10 := Lib.hid ((HP5.out.fr ((Fr.refl [] w5).alloc _) (by simp)).fr hf10 (fun hm => (hx10 _ hm).2 rfl))
              clear ho10 hf10 hx10
              go_wp2
              go_roundw
              case rel => exact ⟨k + 1, m' + 1, c10, A10, _, rfl, by go_num, hk1', HSt.out, HNl.out, HO10.out, HP10.out, HF10.out⟩
              case measure => simp [intOf]; omega
          · obtain rfl : k = ln := by omega
            have e2 : ¬ (k : Int) < k := by omega
            have HAll := Lib.hid (HSome.out st' HRun.out)
            go_wp2
            go_roundw
            case rel => exact ⟨j + 1, m', cc', A9, st', rfl, by go_num, by omega, HAll.out, Hm'.out, HO'.out, HP'.out, HF'.out⟩
            case measure => simp [intOf]; omega
    · obtain rfl : j = n := by omega
      have e1 : ¬ (j : Int) < j := by omega
      have hall := HAc.out
      rw [List.take_of_length_le (by rw [Hn.out]; exact Nat.le_refl _)] at hall
      have HX := Lib.hid (HQs.out wr A' cc m st.out (by rw [← HR.out]; unfold makeA; rw [hall]; rfl) Hm.out HO.out HF.out)
      clear hall
      go_wp2
      exact HX.out

end Bps
end Go.Proofs.Ytokfcknfkhlmfaa
