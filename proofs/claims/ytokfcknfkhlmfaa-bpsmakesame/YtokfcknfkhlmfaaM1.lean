/-
  Contract of bps' (*maker).do, over the contracts of a deed's two functions.
  Contracts of the functions that bps' deeds are made of, of deeds, and of do for each kind of action.
  Rows of bytes: make by a number of 64 bits, a byte read, a byte turned, xor of bytes: plain laws, of no function of the program.
  make of bytes with room behind them; numbers below a bound: plain laws, of no function of the program.
  Contract of bps' Apply, of a patch that was put together of actions.
-/
import Derived.Test.YtokfcknfkhlmfaaBpsAct
import Derived.Test.YtokfcknfkhlmfaaBpsRunMath
import Derived.Deep.DeepCutAuto
import Derived.Test.YtokfcknfkhlmfaaUpsMath
import Derived.Test.YtokfcknfkhlmfaaApp
import Derived.Laws.BitsAllLaws
import Derived.Test.YtokfcknfkhlmfaaM6
namespace Go.Proofs.Ytokfcknfkhlmfaa
open Go.RowKit
namespace Bps

/-- A maker at block p: the input's slice, what was made, both places; nothing of w0 has turned. -/
def Mkr (w0 w : World) (p : Nat) (X : Option Addr) (xn xc : Nat) (out : List UInt8) (s t : Int) : Prop :=
  ∃ A c, Blk w p 75 #[.slice X xn xc, .slice A out.length c, .int .i64 s, .int .i64 t] ∧ Own w w0.heap.size (.slice A out.length c) out ∧ w0.heap.size ≤ p ∧ Fr [] w0 w

theorem Mkr.later {w0 w w' : World} {p xn xc : Nat} {X : Option Addr} {out : List UInt8} {s t : Int} (h : Mkr w0 w p X xn xc out s t) (hf : Fr [] w w') : Mkr w0 w' p X xn xc out s t := by
  obtain ⟨A, c, h1, h2, h3, h4⟩ := h
  exact ⟨A, c, h1.fr hf (by simp), h2.fr hf (by simp), h3, h4.tr hf⟩
theorem Mkr.fr0 {w0 w : World} {p xn xc : Nat} {X : Option Addr} {out : List UInt8} {s t : Int} (h : Mkr w0 w p X xn xc out s t) : Fr [] w0 w := by
  obtain ⟨A, c, h1, h2, h3, h4⟩ := h
  exact h4
theorem Mkr.lt {w0 w : World} {p xn xc : Nat} {X : Option Addr} {out : List UInt8} {s t : Int} (h : Mkr w0 w p X xn xc out s t) : w0.heap.size ≤ p ∧ p < w.heap.size := by
  obtain ⟨A, c, h1, h2, h3, h4⟩ := h
  exact ⟨h3, h1.lt⟩

/-- What from leaves: the place of the first byte; the places are behind the bytes then. -/
def Placed (w0 : World) (p : Nat) (X : Option Addr) (xn xc : Nat) (out : List UInt8) (z s t : Int) (w : World) (e : Ending) (w' : World) : Prop :=
  e = .returned (.int .i64 z) ∧ Mkr w0 w' p X xn xc out s t ∧ Fr [p] w w'
/-- What bytes leaves. -/
def Given (l : List UInt8) (w : World) (e : Ending) (w' : World) : Prop :=
  ∃ B c, e = .returned (.slice B l.length c) ∧ Rd w' B l ∧ (B = none → c = 0) ∧ l.length ≤ c ∧ c ≤ maxLen ∧ Fr [] w w'

/-- Blocks other than p that hold no bytes are as they were. -/
def Keeps (p : Nat) (w w' : World) : Prop := ∀ k t cs, Blk w k t cs → k ≠ p → 5 ≠ t → Blk w' k t cs
theorem Keeps.tr {p : Nat} {a b c : World} (h : Keeps p a b) (h' : Keeps p b c) : Keeps p a c := fun k t cs hb hk ht => h' k t cs (h k t cs hb hk ht) hk ht
theorem keeps_fr {p : Nat} {w w' : World} {S : List Nat} (hf : Fr S w w') (hS : ∀ k ∈ S, k = p ∨ ∃ B v l, Own w B v l ∧ v.ownBlock = some k) : Keeps p w w' := by
  intro k t cs hb hk ht
  refine hb.fr hf fun hm => ?_
  rcases hS k hm with h | ⟨B, v, l, ho, he⟩
  · exact hk h
  · exact ho.other hb ht he

/-- What do leaves. -/
def Did (w0 w : World) (p : Nat) (X : Option Addr) (xn xc : Nat) (r : Option St) (e : Ending) (w' : World) : Prop :=
  (∀ st, r = some st → e = .returned (.int .i64 0) ∧ Mkr w0 w' p X xn xc st.out st.s st.t ∧ Keeps p w w') ∧ (r = none → e = .returned (.int .i64 5) ∧ Fr [] w0 w')

set_option maxRecDepth 100000 in
set_option maxHeartbeats 2000000 in
theorem do_gen (w0 w : World) (p : Nat) (X : Option Addr) (xn xc : Nat) (x : List UInt8) (st : St) (a : Act) (D : Option Addr) (c : Nat) (ff fb : Nat) (s' t' : Int)
    (hcf : ∀ args W, (callFunc ff args).run Try.prog W = .ok (.enter ff args) W) (hcb : ∀ args W, (callFunc fb args).run Try.prog W = .ok (.enter fb args) W)
    (hM : Mkr w0 w p X xn xc st.out st.s st.t) (ha : Ok a)
    (hfrom : ∀ W, Mkr w0 W p X xn xc st.out st.s st.t → Calls Try.prog ff #[.pointer (some ⟨p, 0, none⟩), actA a D c] W (Placed w0 p X xn xc st.out (at0_ a.kind (moved a st)) s' t' W))
    (hbytes : ∀ W out, Mkr w0 W p X xn xc out s' t' → Calls Try.prog fb #[.pointer (some ⟨p, 0, none⟩), actA a D c] W (Given (src a.kind x a.data out) W))
    (hs : s' = (if a.kind = 2 then (moved a st).s + a.len else (moved a st).s)) (ht : t' = (if a.kind = 3 then (moved a st).t + a.len else (moved a st).t))
    (hz0 : -4000000000000000000 ≤ at0_ a.kind (moved a st)) (hz1 : at0_ a.kind (moved a st) ≤ 4000000000000000000) (hxl : x.length ≤ 16777216) (hol : st.out.length + a.len ≤ 16777216) :
    Calls Try.prog 29 #[.pointer (some ⟨p, 0, none⟩), .agg #[.func (.func ff) #[.pointer (some ⟨p, 0, none⟩)] #[], .func (.func fb) #[.pointer (some ⟨p, 0, none⟩)] #[]], actA a D c] w (Did w0 w p X xn xc (act1 x a st)) := by
  obtain ⟨i0, hi, hzz0, hzz1, hzz2⟩ := info_parts info5
  have hk4 := ha.kind
  have hpos := ha.pos
  have hlm := ha.len
  have hdl : a.data.length ≤ 16777216 := by
    by_cases h1 : a.kind = 1
    · rw [ha.data h1]; omega
    · rw [ha.none_ h1]; simp
  unfold act1
  have HS := Lib.hid hs
  have HT := Lib.hid ht
  have ho1 : (moved a st).out = st.out := moved_out a st
  obtain ⟨st1, hst1⟩ : ∃ st1, moved a st = st1 := ⟨_, rfl⟩
  rw [hst1] at HS HT hz0 hz1 ho1 hfrom ⊢
  have HFr := Lib.hid hfrom
  have HBy := Lib.hid hbytes
  obtain ⟨z, hz⟩ : ∃ z, at0_ a.kind st1 = z := ⟨_, rfl⟩
  have HZ := Lib.hid hz
  rw [hz] at HFr hz0 hz1
  obtain ⟨R, hR⟩ : ∃ R, runs a.kind x a.data st1 a.len = R := ⟨_, rfl⟩
  have HR := Lib.hid hR
  rw [hR]
  have HM := Lib.hid hM
  have hlt := hM.lt
  have Ho1 := Lib.hid ho1
  clear hs ht hst1 hfrom hbytes hz hR hM ho1
  unfold actA at HFr HBy ⊢
  obtain ⟨sz, hsz⟩ : ∃ sz, w.heap.size = sz := ⟨_, rfl⟩
  rw [hsz] at hlt
  obtain ⟨kd, hkd⟩ : ∃ kd, a.kind = kd := ⟨_, rfl⟩
  obtain ⟨ln, hln⟩ : ∃ ln, a.len = ln := ⟨_, rfl⟩
  obtain ⟨mv, hmv⟩ : ∃ mv, a.move = mv := ⟨_, rfl⟩
  obtain ⟨da, hda⟩ : ∃ da, a.data = da := ⟨_, rfl⟩
  rw [hkd] at HFr HBy HZ HR HS HT hk4 ⊢
  rw [hln] at HFr HBy HR hpos hlm HS HT hol ⊢
  rw [hmv] at HFr HBy ⊢
  rw [hda] at HFr HBy HR hdl ⊢
  clear hkd hln hmv hda ha
  go_enter Try.func29, Try.ntmps29
  have hn1 := Blk.fresh w 79 #[.func (.func ff) #[.pointer (some ⟨p, 0, none⟩)] #[], .func (.func fb) #[.pointer (some ⟨p, 0, none⟩)] #[]]
  rw [hsz] at hn1
  have hal1 : Fr [] w (w.alloc (.cells #[.func (.func ff) #[.pointer (some ⟨p, 0, none⟩)] #[], .func (.func fb) #[.pointer (some ⟨p, 0, none⟩)] #[]] 79)) := (Fr.refl [] w).alloc _
  have hsz1 : (w.alloc (.cells #[.func (.func ff) #[.pointer (some ⟨p, 0, none⟩)] #[], .func (.func fb) #[.pointer (some ⟨p, 0, none⟩)] #[]] 79)).heap.size = sz + 1 := by simp [hsz]
  have hn2 := Blk.fresh (w.alloc (.cells #[.func (.func ff) #[.pointer (some ⟨p, 0, none⟩)] #[], .func (.func fb) #[.pointer (some ⟨p, 0, none⟩)] #[]] 79)) 82 #[.int .i64 (kd : Int), .int .i64 (ln : Int), .int .i64 mv, .slice D da.length c]
  rw [hsz1] at hn2
  have hal2 := hal1.alloc (.cells #[.int .i64 (kd : Int), .int .i64 (ln : Int), .int .i64 mv, .slice D da.length c] 82)
  have HN1 := Lib.hid (hn1.fr ((Fr.refl [] _).alloc (.cells #[.int .i64 (kd : Int), .int .i64 (ln : Int), .int .i64 mv, .slice D da.length c] 82)) (by simp))
  have HN2 := Lib.hid hn2
  have HAl := Lib.hid hal2
  clear hn1 hal1 hsz1 hn2 hal2
  go_wp2_with fail
  generalize (w.alloc _).alloc _ = w1 at *
  refine (HFr.out w1 (HM.out.later HAl.out)).mono ?_
  rintro e w2 ⟨rfl, hM2, hf2⟩
  have HM2 := Lib.hid hM2
  have hB1 := HN1.out.fr hf2 (by simp; omega)
  have hB2 := HN2.out.fr hf2 (by simp; omega)
  obtain ⟨y0, y1, y2, y3⟩ := blk4 hB2
  have HKp := Lib.hid ((keeps_fr (p := p) HAl.out (by simp)).tr (keeps_fr hf2 (by simp)))
  have HB1 := Lib.hid hB1
  have HB2 := Lib.hid hB2
  have hw1 : IntKind.i64.wrap (z + (ln : Int)) = z + (ln : Int) := by rw [IntKind.wrap_i64]; omega
  have hsz2 : sz + 1 < w2.heap.size := hB2.lt
  clear hM2 hf2 hB1 hB2 HN1 HN2 HAl HFr
  go_wp2_with fail
  go_loopw [7] (fun i wr => ∃ (j : Nat) (st' : St), j ≤ ln ∧ i = .int .i64 (z + (j : Int)) ∧ runs kd x da st1 j = some st' ∧ Mkr w0 wr p X xn xc st'.out s' t' ∧ Blk wr sz 79 #[.func (.func ff) #[.pointer (some ⟨p, 0, none⟩)] #[], .func (.func fb) #[.pointer (some ⟨p, 0, none⟩)] #[]] ∧ Blk wr (sz + 1) 82 #[.int .i64 (kd : Int), .int .i64 (ln : Int), .int .i64 mv, .slice D da.length c] ∧ Keeps p w wr) (fun i _ => (z + ln - intOf i).toNat)
  case atStart => exact ⟨0, st1, Nat.zero_le _, by simp, rfl, by rw [Ho1.out]; exact HM2.out, HB1.out, HB2.out, HKp.out⟩
  case round =>
    obtain ⟨j, st', hj, rfl, hrun, hM, hB1, hB2, hKp⟩ := hrel
    have HKr := Lib.hid hKp
    have HRun := Lib.hid hrun
    have HM := Lib.hid hM
    obtain ⟨d0, d1⟩ : wr.cell? ⟨sz, 0, none⟩ = some (.func (.func ff) #[.pointer (some ⟨p, 0, none⟩)] #[]) ∧ wr.cell? ⟨sz, 1, none⟩ = some (.func (.func fb) #[.pointer (some ⟨p, 0, none⟩)] #[]) := ⟨by rw [hB1.cell]; rfl, by rw [hB1.cell]; rfl⟩
    obtain ⟨q0, q1, q2, q3⟩ := blk4 hB2
    have HC1 := Lib.hid hB1
    have HC2 := Lib.hid hB2
    clear hrun hM hB1 hB2 HM2 HB1 HB2 hKp HKp
    by_cases hlt2 : j < ln
    · have e1 : z + (j : Int) < z + (ln : Int) := by omega
      obtain ⟨q, hq⟩ : ∃ q, z + (j : Int) = q := ⟨_, rfl⟩
      rw [hq] at e1 ⊢
      obtain ⟨be, hbe⟩ : ∃ be, z + (ln : Int) = be := ⟨_, rfl⟩
      rw [hbe] at e1 ⊢
      have Hq := Lib.hid hq
      have Hbe := Lib.hid hbe
      have hqb : q < 5000000000000000000 := by omega
      go_wp2_with fail
      refine (HBy.out wr st'.out HM.out).mono ?_
      rintro e w3 ⟨B, bc, rfl, hB, hBn, hnc, hcm, hf3⟩
      have HM3 := Lib.hid (HM.out.later hf3)
      have HK3 := Lib.hid (HKr.out.tr (keeps_fr hf3 (by simp)))
      have HC1' := Lib.hid (HC1.out.fr hf3 (by simp))
      have HC2' := Lib.hid (HC2.out.fr hf3 (by simp))
      have hsl : (src kd x da st'.out).length ≤ 33554432 := by
        have := (runs_places hk4 HRun.out).1
        rw [Ho1.out] at this
        unfold src
        split
        · omega
        · split <;> omega
      have HRm := Lib.hid (fun m (hm : ∀ p' : Nat, q = p' → p' + m ≤ (src kd x da st'.out).length) (p' : Nat) (hp : q = p') => runs_more kd hk4 x da st1 st' j p' m HRun.out (by rw [HZ.out, Hq.out, hp]) (hm p' hp))
      have HSt := Lib.hid (fun hb => runs_stuck kd hk4 x da st1 st' j ln q HRun.out (by rw [HZ.out, Hq.out]) hb hlt2)
      obtain ⟨sl, hsl'⟩ : ∃ sl, src kd x da st'.out = sl := ⟨_, rfl⟩
      rw [hsl'] at hB hnc hsl HRm HSt ⊢
      have HSl := Lib.hid hsl'
      obtain ⟨n, hn⟩ : ∃ n, sl.length = n := ⟨_, rfl⟩
      rw [hn] at hnc hsl HRm HSt ⊢
      have Hn := Lib.hid hn
      have HB := Lib.hid hB
      clear hB hf3 HM HC1 HC2 hq hbe hsl' hn
      unfold maxLen at hcm
      by_cases hbad : q < 0 ∨ (n : Int) ≤ q
      · have HN := Lib.hid (HSt.out hbad)
        by_cases hq0 : q < 0
        · go_wp2
          go_ret
          exact ⟨fun st hst => (by rw [← HR.out, HN.out] at hst; cases hst), fun _ => ⟨rfl, HM3.out.fr0⟩⟩
        · have hqn : (n : Int) ≤ q := by omega
          go_wp2
          go_ret
          exact ⟨fun st hst => (by rw [← HR.out, HN.out] at hst; cases hst), fun _ => ⟨rfl, HM3.out.fr0⟩⟩
      · have hq0 : ¬ q < 0 := by omega
        have hqn : ¬ (n : Int) ≤ q := by omega
        have hqn' : q < (n : Int) := by omega
        go_upto_region 7 with fail
        obtain ⟨P, hP⟩ : ∃ P : Nat, q = P := ⟨q.toNat, by omega⟩
        subst hP
        obtain ⟨BE, hBE⟩ : ∃ BE : Nat, be = BE := ⟨be.toNat, by omega⟩
        subst hBE
        obtain ⟨bb, bo, rfl, -⟩ := HB.out (by rw [Hn.out]; omega)
        obtain ⟨hi2, hhi⟩ : ∃ hi2, min BE n = hi2 := ⟨_, rfl⟩
        have hmin : min (BE : Int) (n : Int) = (hi2 : Int) := by omega
        have h1 : (P : Int) ≤ hi2 := by omega
        have h2 : P ≤ hi2 := by omega
        have h3 : (hi2 : Int) ≤ bc := by omega
        have h4 : hi2 ≤ bc := by omega
        have h5 : ¬ bc = P := by omega
        have h6 : (P : Int) ≤ bc := by omega
        have h7 : P ≤ bc := by omega
        obtain ⟨m, hm⟩ : ∃ m, hi2 - P = m := ⟨_, rfl⟩
        have hm0 : 0 < m := by omega
        have hmn : P + m ≤ n := by omega
        have hml : j + m ≤ ln := by have := Hq.out; have := Hbe.out; omega
        obtain ⟨st2, hst2, hout2⟩ := HRm.out m (fun p' hp => by have : P = p' := by omega
                                                                subst this; exact hmn) P rfl
        have hpl := runs_places hk4 HRun.out
        have hol2 : st'.out.length + m ≤ 16777216 := by rw [hpl.1, Ho1.out]; omega
        obtain ⟨A, cA, hK, hOw, hp0, hfr0⟩ := HM3.out
        obtain ⟨N, hN⟩ : ∃ N, st'.out.length = N := ⟨_, rfl⟩
        rw [hN] at hK hOw hol2
        obtain ⟨k0, k1, k2, k3⟩ := blk4 hK
        have g1 := hK.frozen 1
        have HK := Lib.hid hK
        have HOw := Lib.hid hOw
        have HN := Lib.hid hN
        have HF0 := Lib.hid hfr0
        have Hout2 := Lib.hid hout2
        have Hst2 := Lib.hid hst2
        have HNews : Hid (((sl.drop P).take m).length = m) := Lib.hid (by rw [List.length_take, List.length_drop, Hn.out]; omega)
        have HRd : Hid (Rd w3 (some ⟨bb, bo + P, none⟩) ((sl.drop P).take m)) := Lib.hid (by
          obtain ⟨b', o', e, hx⟩ := HB.out (by rw [Hn.out]; omega)
          cases e
          exact Rd.cut hx P m)
        have hs3 : w0.heap.size ≤ w3.heap.size := hfr0.size
        have hnp : ∀ k ∈ (Value.slice A N cA).ownBlock.toList, k ≠ p := by
          intro k hk e
          subst e
          exact hOw.other hK (by decide) (by simpa using hk)
        have hnq : ∀ k ∈ (Value.slice A N cA).ownBlock.toList, k ≠ sz := by
          intro k hk e
          subst e
          exact hOw.other HC1'.out (by decide) (by simpa using hk)
        have hnr : ∀ k ∈ (Value.slice A N cA).ownBlock.toList, k ≠ sz + 1 := by
          intro k hk e
          subst e
          exact hOw.other HC2'.out (by decide) (by simpa using hk)
        have Hnp := Lib.hid hnp
        have Hnq := Lib.hid hnq
        have Hnr := Lib.hid hnr
        have Hpl := Lib.hid hpl
        clear hK hOw hN hout2 hst2 hfr0 HM3 hpl hbad HRm HSt hnp hnq hnr hhi hq0 hqn hqn' hqb e1
        rw [show decide ((P : Int) < 0) = false by simp, show decide ((n : Int) ≤ (P : Int)) = false by simp; omega]
        go_wp2_with (at_builtin; refine wpList_appN _ rfl (.tmp 45) (.tmp 46) 22 rfl w0.heap.size i0 Try.underlying22 hi hzz0 hzz1 hzz2 (.slice A N cA) st'.out N HN.out rfl HOw.out (some ⟨bb, bo + P, none⟩) m (bc - P) ((sl.drop P).take m) rfl HNews.out HRd.out (by simp) (by omega) hs3 ?_)
        intro A4 c4 w4 ho4 hf4 _
        have hK4 := HK.out.fr hf4 (fun hm => Hnp.out p hm rfl)
        have HC4 := Lib.hid (HC1'.out.fr hf4 (fun hm => Hnq.out sz hm rfl))
        have HC5 := Lib.hid (HC2'.out.fr hf4 (fun hm => Hnr.out (sz + 1) hm rfl))
        have HF4 : Hid (Fr [] w0 w4) := Lib.hid (HF0.out.trans hf4 (fun k hk => .inr (HOw.out.lt k (by simpa using hk)).1))
        have HK5 := Lib.hid (HK3.out.tr (keeps_fr (p := p) hf4 (fun k hk => .inr ⟨_, _, _, HOw.out, by simpa using hk⟩)))
        obtain ⟨r0, r1, r2, r3⟩ := blk4 hK4
        have v1 := hK4.frozen 1
        have HK4 := Lib.hid hK4
        have HO4 := Lib.hid ho4
        have hw5 : IntKind.i64.wrap ((P : Int) + (m : Int)) = (P : Int) + (m : Int) := by rw [IntKind.wrap_i64]; omega
        clear ho4 hf4 hK4 HK HOw HC1' HC2' k0 k1 k2 k3 g1
        go_wp2
        go_roundw
        case rel =>
          have hst : Fr [p] w4 (w4.setCell ⟨p, 1, none⟩ (.slice A4 (N + m) c4)) := (Fr.refl [p] w4).setCell (by simp) _
          have hb := HK4.out.put 1 (.slice A4 (N + m) c4)
          simp only [List.setIfInBounds_toArray, List.set_cons_zero, List.set_cons_succ] at hb
          have hnl : st2.out.length = N + m := by rw [Hout2.out, List.length_append, HN.out, HNews.out]
          refine ⟨j + m, st2, hml, ?_, Hst2.out, ⟨A4, c4, by rw [hnl]; exact hb, ?_, hlt.1, HF4.out.setCell (.inr hlt.1) _⟩, HC4.out.fr hst (by simp; omega), HC5.out.fr hst (by simp; omega), HK5.out.tr (keeps_fr hst (by simp))⟩
          · have := Hq.out
            first
            | (congr 1; omega)
            | (go_num; omega)
          · rw [hnl, Hout2.out]
            refine HO4.out.fr hst (fun k hk hm => ?_)
            have := HO4.out.other HK4.out (by decide)
            simp at hm
            subst hm
            exact this hk
        case measure => simp [intOf]; omega
    · obtain rfl : j = ln := by omega
      go_wp2
      go_ret
      have hpl := runs_places hk4 HRun.out
      refine ⟨fun st hst => ⟨rfl, ?_⟩, fun hn => ?_⟩
      · rw [← HR.out, HRun.out] at hst
        cases hst
        rw [hpl.2.1, hpl.2.2, ← HS.out, ← HT.out]
        exact ⟨HM.out, HKr.out⟩
      · rw [← HR.out, HRun.out] at hn
        cases hn

end Bps
end Go.Proofs.Ytokfcknfkhlmfaa

namespace Go.Proofs.Ytokfcknfkhlmfaa
open Go.RowKit
namespace Bps

section
variable (w0 w : World) (p : Nat) (X : Option Addr) (xn xc : Nat) (out : List UInt8) (s t : Int) (a : Act) (D : Option Addr) (c : Nat)

set_option maxHeartbeats 1000000 in
theorem samePlace_any (h : Mkr w0 w p X xn xc out s t) : Calls Try.prog 44 #[.pointer (some ⟨p, 0, none⟩), actA a D c] w (Placed w0 p X xn xc out (out.length : Int) s t w) := by
  have HM := Lib.hid h
  obtain ⟨A, cA, hK, -, -, -⟩ := h
  obtain ⟨k0, k1, k2, k3⟩ := blk4 hK
  have hpl := hK.lt
  have hp1 : ¬ p = w.heap.size := by omega
  have hp2 : ¬ w.heap.size = p := by omega
  clear hK
  unfold actA
  go_enter Try.func44, Try.ntmps44
  go_wp2
  go_ret
  have hf : Fr [] w (w.alloc (.cells #[.int .i64 (a.kind : Int), .int .i64 (a.len : Int), .int .i64 a.move, .slice D a.data.length c] 82)) := (Fr.refl [] w).alloc _
  exact ⟨rfl, HM.out.later hf, hf.nil⟩

set_option maxHeartbeats 1000000 in
theorem firstPlace_any (h : Mkr w0 w p X xn xc out s t) : Calls Try.prog 46 #[.pointer (some ⟨p, 0, none⟩), actA a D c] w (Placed w0 p X xn xc out 0 s t w) := by
  have HM := Lib.hid h
  clear h
  unfold actA
  go_enter Try.func46, Try.ntmps46
  go_wp2
  go_ret
  have hf : Fr [] w (w.alloc (.cells #[.int .i64 (a.kind : Int), .int .i64 (a.len : Int), .int .i64 a.move, .slice D a.data.length c] 82)) := (Fr.refl [] w).alloc _
  exact ⟨rfl, HM.out.later hf, hf.nil⟩

set_option maxHeartbeats 1000000 in
theorem input_any (h : Mkr w0 w p X xn xc out s t) (x : List UInt8) (hn : x.length = xn) (hx : Rd w0 X x) (hX : X = none → xc = 0) (hc : xn ≤ xc) (hm : xc ≤ maxLen) : Calls Try.prog 45 #[.pointer (some ⟨p, 0, none⟩), actA a D c] w (Given x w) := by
  have HM := Lib.hid h
  obtain ⟨A, cA, hK, -, -, -⟩ := h
  obtain ⟨k0, k1, k2, k3⟩ := blk4 hK
  have hpl := hK.lt
  have hp1 : ¬ p = w.heap.size := by omega
  have hp2 : ¬ w.heap.size = p := by omega
  have HX := Lib.hid hx
  have Hn := Lib.hid hn
  have HXn := Lib.hid hX
  have Hm := Lib.hid hm
  have Hc := Lib.hid hc
  clear hK hx hn hX hm hc
  unfold actA
  go_enter Try.func45, Try.ntmps45
  go_wp2
  go_ret
  have hf : Fr [] w (w.alloc (.cells #[.int .i64 (a.kind : Int), .int .i64 (a.len : Int), .int .i64 a.move, .slice D a.data.length c] 82)) := (Fr.refl [] w).alloc _
  exact ⟨X, xc, by rw [Hn.out]; rfl, HX.out.later (HM.out.fr0.tr hf) (by simp), HXn.out, by rw [Hn.out]; exact Hc.out, Hm.out, hf⟩

set_option maxHeartbeats 1000000 in
theorem output_any (h : Mkr w0 w p X xn xc out s t) : Calls Try.prog 50 #[.pointer (some ⟨p, 0, none⟩), actA a D c] w (Given out w) := by
  obtain ⟨A, cA, hK, hO, -, -⟩ := h
  obtain ⟨k0, k1, k2, k3⟩ := blk4 hK
  have hpl := hK.lt
  have hp1 : ¬ p = w.heap.size := by omega
  have hp2 : ¬ w.heap.size = p := by omega
  have HO := Lib.hid hO
  clear hK hO
  unfold actA
  go_enter Try.func50, Try.ntmps50
  go_wp2
  go_ret
  have hf : Fr [] w (w.alloc (.cells #[.int .i64 (a.kind : Int), .int .i64 (a.len : Int), .int .i64 a.move, .slice D a.data.length c] 82)) := (Fr.refl [] w).alloc _
  obtain ⟨A', c', hv, h1, _, h2, h3, h4⟩ := HO.out.slice
  cases hv
  exact ⟨A, cA, rfl, h1.later hf (by simp), h4, h2, h3, hf⟩

set_option maxHeartbeats 1000000 in
theorem data_any (hD : Rd w D a.data) (hn : D = none → c = 0) (hc : a.data.length ≤ c) (hm : c ≤ maxLen) : Calls Try.prog 47 #[.pointer (some ⟨p, 0, none⟩), actA a D c] w (Given a.data w) := by
  have HD := Lib.hid hD
  have Hn := Lib.hid hn
  have Hc := Lib.hid hc
  have Hm := Lib.hid hm
  clear hD hn hc hm
  unfold actA
  go_enter Try.func47, Try.ntmps47
  go_wp2
  go_ret
  have hf : Fr [] w (w.alloc (.cells #[.int .i64 (a.kind : Int), .int .i64 (a.len : Int), .int .i64 a.move, .slice D a.data.length c] 82)) := (Fr.refl [] w).alloc _
  exact ⟨D, c, rfl, HD.out.later hf (by simp), Hn.out, Hc.out, Hm.out, hf⟩

set_option maxHeartbeats 1000000 in
theorem moved_any (o : Nat) (z : Int) (hz : w.cell? ⟨p, o, none⟩ = some (.int .i64 z)) (hfz : w.frozen? ⟨p, o, none⟩ = false) (h0 : -4000000000000000000 ≤ z + a.move) (h1 : z + a.move ≤ 4000000000000000000) (hl : a.len ≤ 16777216) :
    Calls Try.prog 71 #[.pointer (some ⟨p, o, none⟩), actA a D c] w fun e w' => e = .returned (.int .i64 (z + a.move)) ∧ ∃ W, Fr [] w W ∧ w' = W.setCell ⟨p, o, none⟩ (.int .i64 (z + a.move + (a.len : Int))) := by
  have hpl := World.block_lt_of_cell? w _ hz
  simp only at hpl
  have hp1 : ¬ p = w.heap.size := by omega
  have hp2 : ¬ w.heap.size = p := by omega
  have e1 : IntKind.i64.wrap (z + a.move) = z + a.move := by rw [IntKind.wrap_i64]; omega
  have e2 : IntKind.i64.wrap (z + a.move + (a.len : Int)) = z + a.move + (a.len : Int) := by rw [IntKind.wrap_i64]; omega
  unfold actA
  go_enter Try.func71, Try.ntmps71
  go_wp2
  go_quiet (fail)
  go_wp2
  go_ret
  exact ⟨rfl, _, ((Fr.refl [] w).alloc _).drewN _, rfl⟩

set_option maxHeartbeats 1000000 in
theorem sourcePlace_any (h : Mkr w0 w p X xn xc out s t) (h0 : -4000000000000000000 ≤ s + a.move) (h1 : s + a.move ≤ 4000000000000000000) (hl : a.len ≤ 16777216) : Calls Try.prog 48 #[.pointer (some ⟨p, 0, none⟩), actA a D c] w (Placed w0 p X xn xc out (s + a.move) (s + a.move + (a.len : Int)) (t) w) := by
  have hf : Fr [] w (w.alloc (.cells #[.int .i64 (a.kind : Int), .int .i64 (a.len : Int), .int .i64 a.move, .slice D a.data.length c] 82)) := (Fr.refl [] w).alloc _
  have hM := h.later hf
  obtain ⟨A, cA, hK, hO, hp0, hfr⟩ := hM
  have HMv := Lib.hid fun W (hW : Fr [] (w.alloc (.cells #[.int .i64 (a.kind : Int), .int .i64 (a.len : Int), .int .i64 a.move, .slice D a.data.length c] 82)) W) => moved_any W p a D c 2 s (by rw [(hK.fr hW (by simp)).cell]; rfl) ((hK.fr hW (by simp)).frozen 2) h0 h1 hl
  have HK := Lib.hid hK
  have HO := Lib.hid hO
  have HF := Lib.hid hf
  have HF0 := Lib.hid hfr
  unfold actA at HMv ⊢
  clear h hK hO hf hfr
  go_enter Try.func48, Try.ntmps48
  go_wp2_with fail
  go_region_law (go_simp; go_at_call 71; (with_reducible refine (HMv.out _ ((Fr.refl [] _).drew)).mono ?_); rintro e w1 ⟨rfl, W, hW, rfl⟩)
  all_goals
    go_wp2
    go_ret
    have hst : Fr [p] W (W.setCell ⟨p, 2, none⟩ (.int .i64 (s + a.move + (a.len : Int)))) := (Fr.refl [p] W).setCell (by simp) _
    have hd : Fr [] (w.alloc (.cells #[.int .i64 (a.kind : Int), .int .i64 (a.len : Int), .int .i64 a.move, .slice D a.data.length c] 82)) W := ((Fr.refl [] _).drew).tr hW
    have hK1 := HK.out.fr hd (by simp)
    have hb := hK1.put 2 (.int .i64 (s + a.move + (a.len : Int)))
    simp only [List.setIfInBounds_toArray, List.set_cons_zero, List.set_cons_succ] at hb
    have hO1 := HO.out.fr hd (by simp)
    refine ⟨rfl, ⟨A, cA, hb, hO1.fr hst (fun k hk hm => ?_), hp0, (HF0.out.tr hd).trans hst (by simp; exact hp0)⟩, ((HF.out.tr hd).nil).tr hst⟩
    simp at hm
    subst hm
    exact hO1.other hK1 (by decide) hk

set_option maxHeartbeats 1000000 in
theorem targetPlace_any (h : Mkr w0 w p X xn xc out s t) (h0 : -4000000000000000000 ≤ t + a.move) (h1 : t + a.move ≤ 4000000000000000000) (hl : a.len ≤ 16777216) : Calls Try.prog 49 #[.pointer (some ⟨p, 0, none⟩), actA a D c] w (Placed w0 p X xn xc out (t + a.move) (s) (t + a.move + (a.len : Int)) w) := by
  have hf : Fr [] w (w.alloc (.cells #[.int .i64 (a.kind : Int), .int .i64 (a.len : Int), .int .i64 a.move, .slice D a.data.length c] 82)) := (Fr.refl [] w).alloc _
  have hM := h.later hf
  obtain ⟨A, cA, hK, hO, hp0, hfr⟩ := hM
  have HMv := Lib.hid fun W (hW : Fr [] (w.alloc (.cells #[.int .i64 (a.kind : Int), .int .i64 (a.len : Int), .int .i64 a.move, .slice D a.data.length c] 82)) W) => moved_any W p a D c 3 t (by rw [(hK.fr hW (by simp)).cell]; rfl) ((hK.fr hW (by simp)).frozen 3) h0 h1 hl
  have HK := Lib.hid hK
  have HO := Lib.hid hO
  have HF := Lib.hid hf
  have HF0 := Lib.hid hfr
  unfold actA at HMv ⊢
  clear h hK hO hf hfr
  go_enter Try.func49, Try.ntmps49
  go_wp2_with fail
  go_region_law (go_simp; go_at_call 71; (with_reducible refine (HMv.out _ ((Fr.refl [] _).drew)).mono ?_); rintro e w1 ⟨rfl, W, hW, rfl⟩)
  all_goals
    go_wp2
    go_ret
    have hst : Fr [p] W (W.setCell ⟨p, 3, none⟩ (.int .i64 (t + a.move + (a.len : Int)))) := (Fr.refl [p] W).setCell (by simp) _
    have hd : Fr [] (w.alloc (.cells #[.int .i64 (a.kind : Int), .int .i64 (a.len : Int), .int .i64 a.move, .slice D a.data.length c] 82)) W := ((Fr.refl [] _).drew).tr hW
    have hK1 := HK.out.fr hd (by simp)
    have hb := hK1.put 3 (.int .i64 (t + a.move + (a.len : Int)))
    simp only [List.setIfInBounds_toArray, List.set_cons_zero, List.set_cons_succ] at hb
    have hO1 := HO.out.fr hd (by simp)
    refine ⟨rfl, ⟨A, cA, hb, hO1.fr hst (fun k hk hm => ?_), hp0, (HF0.out.tr hd).trans hst (by simp; exact hp0)⟩, ((HF.out.tr hd).nil).tr hst⟩
    simp at hm
    subst hm
    exact hO1.other hK1 (by decide) hk

end

/-- The functions of a kind's deed. -/
def fromF (k : Nat) : Nat := if k = 0 then 44 else if k = 1 then 46 else if k = 2 then 48 else 49
def bytesF (k : Nat) : Nat := if k = 1 then 47 else if k = 3 then 50 else 45
/-- A method's value, of the maker at block p. -/
def metV (f p : Nat) : Value := .func (.func f) #[.pointer (some ⟨p, 0, none⟩)] #[]
/-- All deeds. -/
def deedsV (p : Nat) : Array Value := #[metV (fromF 0) p, metV (bytesF 0) p, metV (fromF 1) p, metV (bytesF 1) p, metV (fromF 2) p, metV (bytesF 2) p, metV (fromF 3) p, metV (bytesF 3) p]

theorem blk8 {w : World} {b : Nat} {x0 x1 x2 x3 x4 x5 x6 x7 : Value} {t : TypeId} (h : Blk w b t #[x0, x1, x2, x3, x4, x5, x6, x7]) : (w.cell? ⟨b, 0, none⟩ = some x0 ∧ w.cell? ⟨b, 1, none⟩ = some x1 ∧ w.cell? ⟨b, 2, none⟩ = some x2 ∧ w.cell? ⟨b, 3, none⟩ = some x3) ∧ w.cell? ⟨b, 4, none⟩ = some x4 ∧ w.cell? ⟨b, 5, none⟩ = some x5 ∧ w.cell? ⟨b, 6, none⟩ = some x6 ∧ w.cell? ⟨b, 7, none⟩ = some x7 :=
  ⟨⟨by rw [h.cell]; rfl, by rw [h.cell]; rfl, by rw [h.cell]; rfl, by rw [h.cell]; rfl⟩, by rw [h.cell]; rfl, by rw [h.cell]; rfl, by rw [h.cell]; rfl, by rw [h.cell]; rfl⟩

set_option maxHeartbeats 1000000 in
theorem deeds_any (w : World) (p : Nat) : Calls Try.prog 28 #[.pointer (some ⟨p, 0, none⟩)] w fun e w' => e = .returned (.agg (deedsV p)) ∧ Fr [] w w' := by
  have hmf : ∀ (fn : Fn) (first cap : Array Value) (w : World), (Instr.makeFunc fn first cap).run Try.prog w = .ok (.func fn first cap) w := fun _ _ _ _ => rfl
  have HB := Lib.hid (blk8 (Blk.fresh w 80 (deedsV p)))
  have HF := Lib.hid ((Fr.refl [] w).alloc (.cells (deedsV p) 80))
  have HD : Hid (deedsV p = #[.func (.func 44) #[.pointer (some ⟨p, 0, none⟩)] #[], .func (.func 45) #[.pointer (some ⟨p, 0, none⟩)] #[], .func (.func 46) #[.pointer (some ⟨p, 0, none⟩)] #[], .func (.func 47) #[.pointer (some ⟨p, 0, none⟩)] #[], .func (.func 48) #[.pointer (some ⟨p, 0, none⟩)] #[], .func (.func 45) #[.pointer (some ⟨p, 0, none⟩)] #[], .func (.func 49) #[.pointer (some ⟨p, 0, none⟩)] #[], .func (.func 50) #[.pointer (some ⟨p, 0, none⟩)] #[]]) := Lib.hid rfl
  rw [HD.out] at HB HF ⊢
  clear HD
  go_enter Try.func28, Try.ntmps28
  go_wp2
  obtain ⟨⟨z0, z1, z2, z3⟩, z4, z5, z6, z7⟩ := HB.out
  simp only [metV, fromF, bytesF] at z0 z1 z2 z3 z4 z5 z6 z7
  generalize w.alloc _ = W at *
  exact bodyPost_ret (v := .agg #[.func (.func 44) #[.pointer (some ⟨p, 0, none⟩)] #[], .func (.func 45) #[.pointer (some ⟨p, 0, none⟩)] #[], .func (.func 46) #[.pointer (some ⟨p, 0, none⟩)] #[], .func (.func 47) #[.pointer (some ⟨p, 0, none⟩)] #[], .func (.func 48) #[.pointer (some ⟨p, 0, none⟩)] #[], .func (.func 45) #[.pointer (some ⟨p, 0, none⟩)] #[], .func (.func 49) #[.pointer (some ⟨p, 0, none⟩)] #[], .func (.func 50) #[.pointer (some ⟨p, 0, none⟩)] #[]]) (by simp [results, Try.results28, go_sem, z0, z1, z2, z3, z4, z5, z6, z7]) rfl ⟨rfl, HF.out⟩

theorem enters_own {f : FuncId} {fn : Func} (hf : Try.prog.funcs[f]? = some fn) (hn : (fn.name == "runtime.NumGoroutine") = false) (hb : fn.body.isNone = false) (args : Array Value) (W : World) : (callFunc f args).run Try.prog W = .ok (.enter f args) W := by
  have h1 : fn.name ≠ "runtime.NumGoroutine" := by simpa using hn
  obtain ⟨b, h2⟩ : ∃ b, fn.body = some b := by
    cases h : fn.body with
    | none => rw [h] at hb; cases hb
    | some b => exact ⟨b, rfl⟩
  simp [callFunc, hf, h1, h2]

theorem enters_from (k : Nat) (hk : k < 4) (args : Array Value) (W : World) : (callFunc (fromF k) args).run Try.prog W = .ok (.enter (fromF k) args) W := by
  rcases (by omega : k = 0 ∨ k = 1 ∨ k = 2 ∨ k = 3) with rfl | rfl | rfl | rfl
  · exact enters_own Try.func44 (by kernel_rfl) (by kernel_rfl) args W
  · exact enters_own Try.func46 (by kernel_rfl) (by kernel_rfl) args W
  · exact enters_own Try.func48 (by kernel_rfl) (by kernel_rfl) args W
  · exact enters_own Try.func49 (by kernel_rfl) (by kernel_rfl) args W
theorem enters_bytes (k : Nat) (hk : k < 4) (args : Array Value) (W : World) : (callFunc (bytesF k) args).run Try.prog W = .ok (.enter (bytesF k) args) W := by
  rcases (by omega : k = 0 ∨ k = 1 ∨ k = 2 ∨ k = 3) with rfl | rfl | rfl | rfl
  · exact enters_own Try.func45 (by kernel_rfl) (by kernel_rfl) args W
  · exact enters_own Try.func47 (by kernel_rfl) (by kernel_rfl) args W
  · exact enters_own Try.func45 (by kernel_rfl) (by kernel_rfl) args W
  · exact enters_own Try.func50 (by kernel_rfl) (by kernel_rfl) args W

theorem do_any (w0 w : World) (p : Nat) (X : Option Addr) (xn xc : Nat) (x : List UInt8) (st : St) (a : Act) (D : Option Addr) (c : Nat) (hM : Mkr w0 w p X xn xc st.out st.s st.t) (ha : Ok a)
    (hn : x.length = xn) (hx : Rd w0 X x) (hX : X = none → xc = 0) (hc : xn ≤ xc) (hm : xc ≤ maxLen) (hD : Rd w0 D a.data) (hDn : D = none → c = 0) (hDc : a.data.length ≤ c) (hDm : c ≤ maxLen)
    (hs0 : -3000000000000000000 ≤ st.s) (hs1 : st.s ≤ 3000000000000000000) (ht0 : -3000000000000000000 ≤ st.t) (ht1 : st.t ≤ 3000000000000000000) (hxl : x.length ≤ 16777216) (hol : st.out.length + a.len ≤ 16777216) :
    Calls Try.prog 29 #[.pointer (some ⟨p, 0, none⟩), .agg #[metV (fromF a.kind) p, metV (bytesF a.kind) p], actA a D c] w (Did w0 w p X xn xc (act1 x a st)) := by
  have h4 := ha.kind
  have hlo := ha.low
  have hhi := ha.high
  have hlen := ha.len
  have hin : ∀ W out' s' t', Mkr w0 W p X xn xc out' s' t' → Calls Try.prog 45 #[.pointer (some ⟨p, 0, none⟩), actA a D c] W (Given x W) := fun W out' s' t' h => input_any w0 W p X xn xc out' s' t' a D c h x hn hx hX hc hm
  rcases (by omega : a.kind = 0 ∨ a.kind = 1 ∨ a.kind = 2 ∨ a.kind = 3) with h0 | h0 | h0 | h0
  · have hmv : moved a st = st := by simp [moved, h0]
    refine do_gen w0 w p X xn xc x st a D c (fromF a.kind) (bytesF a.kind) st.s st.t (enters_from _ h4) (enters_bytes _ h4) hM ha ?_ ?_ (by simp [hmv, h0]) (by simp [hmv, h0]) (by simp [hmv, h0, at0_, at_]) (by simp [hmv, h0, at0_, at_]; omega) hxl hol
    · intro W hW
      have h1 := samePlace_any w0 W p X xn xc st.out st.s st.t a D c hW
      simpa [hmv, h0, at0_, at_, fromF] using h1
    · intro W out' hW
      have h1 := hin W out' _ _ hW
      simpa [h0, bytesF, src] using h1
  · have hmv : moved a st = st := by simp [moved, h0]
    refine do_gen w0 w p X xn xc x st a D c (fromF a.kind) (bytesF a.kind) st.s st.t (enters_from _ h4) (enters_bytes _ h4) hM ha ?_ ?_ (by simp [hmv, h0]) (by simp [hmv, h0]) (by simp [h0, at0_, at_]) (by simp [h0, at0_, at_]) hxl hol
    · intro W hW
      have h1 := firstPlace_any w0 W p X xn xc st.out st.s st.t a D c hW
      simpa [hmv, h0, at0_, at_, fromF] using h1
    · intro W out' hW
      have h1 := data_any W p a D c (hD.later hW.fr0 (by simp)) hDn hDc hDm
      simpa [h0, bytesF, src] using h1
  · have hmv : moved a st = ⟨st.out, st.s + a.move, st.t⟩ := by simp [moved, h0]
    refine do_gen w0 w p X xn xc x st a D c (fromF a.kind) (bytesF a.kind) (st.s + a.move + (a.len : Int)) st.t (enters_from _ h4) (enters_bytes _ h4) hM ha ?_ ?_ (by simp [hmv, h0]) (by simp [hmv, h0]) (by simp [hmv, h0, at0_, at_]; omega) (by simp [hmv, h0, at0_, at_]; omega) hxl hol
    · intro W hW
      have h1 := sourcePlace_any w0 W p X xn xc st.out st.s st.t a D c hW (by omega) (by omega) hlen
      simpa [hmv, h0, at0_, at_, fromF] using h1
    · intro W out' hW
      have h1 := hin W out' _ _ hW
      simpa [h0, bytesF, src] using h1
  · have hmv : moved a st = ⟨st.out, st.s, st.t + a.move⟩ := by simp [moved, h0]
    refine do_gen w0 w p X xn xc x st a D c (fromF a.kind) (bytesF a.kind) st.s (st.t + a.move + (a.len : Int)) (enters_from _ h4) (enters_bytes _ h4) hM ha ?_ ?_ (by simp [hmv, h0]) (by simp [hmv, h0]) (by simp [hmv, h0, at0_, at_]; omega) (by simp [hmv, h0, at0_, at_]; omega) hxl hol
    · intro W hW
      have h1 := targetPlace_any w0 W p X xn xc st.out st.s st.t a D c hW (by omega) (by omega) hlen
      simpa [hmv, h0, at0_, at_, fromF] using h1
    · intro W out' hW
      have h1 := output_any w0 W p X xn xc out' _ _ a D c hW
      simpa [h0, bytesF, src] using h1

end Bps
end Go.Proofs.Ytokfcknfkhlmfaa

namespace Go.Proofs.Ytokfcknfkhlmfaa
open Go.RowKit
namespace Ups

theorem made_zero (n : Nat) : madeCells #[Value.int .u8 0] n = (bv (List.replicate n 0)).toArray := by
  rw [← Array.toList_inj]
  apply List.ext_getElem
  · simp [madeCells, bv]
  · intro i h1 h2
    simp [madeCells, bv, Nat.mod_one]

theorem make64 (n : Nat) (hn : n ≤ 1000000000) (w : World) : (Instr.makeSlice 22 (.int .u64 (n : Int)) (.int .u64 (n : Int))).run Try.prog w = .ok (.slice (some ⟨w.heap.size, 0, none⟩) n n) (w.alloc (.cells (bv (List.replicate n 0)).toArray 5)) := by
  obtain ⟨i0, hi, hz0, hz1, hz2⟩ := info_parts info5
  have hrun := run_make (P := Try.prog) w 22 5 i0 (.int .u8 0) Try.underlying22 hi hz0 .u64 .u64 (n : Int) (n : Int) (by omega) (by omega) (by rw [hz2]; omega) (by omega)
  simp only [Int.toNat_natCast] at hrun
  rw [hrun, ← made_zero, hz1, Nat.mul_one]
  rfl

/-- A byte of a row is turned. -/
theorem blk_put {w : World} {g : Nat} {l : List UInt8} (h : Blk w g 5 (bv l).toArray) (k : Nat) (x : UInt8) : Blk (w.setCell ⟨g, k, none⟩ (.int .u8 (x.toNat : Int))) g 5 (bv (l.set k x)).toArray := by
  have h1 := h.put k (.int .u8 (x.toNat : Int))
  rw [List.setIfInBounds_toArray] at h1
  rw [show bv (l.set k x) = (bv l).set k (.int .u8 (x.toNat : Int)) from by simp [bv, List.map_set]]
  exact h1
theorem blk_get {w : World} {g : Nat} {l : List UInt8} (h : Blk w g 5 (bv l).toArray) (k : Nat) (x : UInt8) (hx : l[k]? = some x) : w.cell? ⟨g, k, none⟩ = some (.int .u8 (x.toNat : Int)) := by
  obtain ⟨hk, e⟩ := List.getElem?_eq_some_iff.1 hx
  rw [h.cell k, List.getElem?_toArray, bv_get l k hk, e]
theorem xor_byte (x y : UInt8) : bits .xor .u8 (x.toNat : Int) (y.toNat : Int) = ((x ^^^ y).toNat : Int) := by
  rw [u8_xor_nat _ _ x.toNat_lt y.toNat_lt, UInt8.toNat_xor]

theorem xor_ne {x y : UInt8} (h : x ≠ y) : x ^^^ y ≠ 0 := by
  intro e
  apply h
  have h1 := congrArg (fun z => x ^^^ z) e
  simp only [xor_cancel] at h1
  rw [h1]
  simp

theorem xor_zero {x y : UInt8} (h : x ^^^ y = 0) : x = y := by
  by_cases e : x = y
  · exact e
  · exfalso
    have h1 := congrArg (fun z => x ^^^ z) h
    simp only [xor_cancel] at h1
    exact e (by rw [h1]; simp)

end Ups
end Go.Proofs.Ytokfcknfkhlmfaa

namespace Go.Proofs.Ytokfcknfkhlmfaa
open Go.RowKit
namespace Mk

/-- 'make([]byte, L, C)'. -/
theorem wpList_makeB {P : Program} (w : World) {ops : Array Oper} {rest : List Oper} {o : Oper} {a : Act} {Q : Exit → Act → World → Prop}
    (hg : o.guard = none) (l c : Operand) (t : TypeId) (hop : o.op = Op.makeSlice t l c)
    (base : Nat) (i : TypeInfo) (h1 : P.underlying t = some (.slice 5)) (h2 : P.info? 5 = some i) (h3 : i.zero = some (.int .u8 0)) (h4 : i.size = 1) (h5 : i.bytes = 1)
    (kl kc : IntKind) (L C : Nat) (hl : a.eval l = .int kl (L : Int)) (hc : a.eval c = .int kc (C : Int)) (hLC : L ≤ C) (hC : C ≤ 1000000000) (b4 : base ≤ w.heap.size)
    (hK : ∀ w', Own w' base (.slice (some ⟨w.heap.size, 0, none⟩) L C) (List.replicate L 0) → Fr [] w w' → wpList P ops Q rest (a.put o.dst (.slice (some ⟨w.heap.size, 0, none⟩) L C)) w') :
    wpList P ops Q (o :: rest) a w := by
  refine wpList_plain hg fun K hK' => ?_
  have hrun := run_make (P := P) w t 5 i (.int .u8 0) h1 h2 h3 kl kc (L : Int) (C : Int) (by omega) (by omega) (by rw [h5]; omega) (by omega)
  simp only [Int.toNat_natCast, h4, Nat.mul_one] at hrun
  unfold Oper.wp
  simp [execOp, hop, hl, hc, hrun, Result.andThen]
  refine hK' _ _ (hK _ ?_ ((Fr.refl [] w).alloc _))
  refine ⟨by simp [bv_length], .inr ⟨w.heap.size, C, madeCells (Value.int .u8 0).cells C, by simp, b4, heap_alloc_new w _, by simpa using hLC, by unfold maxLen; omega, by simp [size_madeCells], ?_⟩⟩
  rw [Nat.mul_one, show (Value.int .u8 0).cells = #[Value.int .u8 0] from rfl, Ups.made_zero]
  simp only
  rw [← bv_take, List.length_replicate, List.take_replicate, Nat.min_eq_left hLC]

theorem and24 (n : Int) : 0 ≤ bits .and .i64 n 16777215 ∧ bits .and .i64 n 16777215 ≤ 16777215 := by
  have h : (BitVec.ofInt 64 16777215).toNat = 2 ^ 24 - 1 := by decide
  have key : (BitVec.ofInt 64 n &&& BitVec.ofInt 64 16777215).toNat = (n % ((2 ^ 64 : Nat) : Int)).toNat % 2 ^ 24 := by
    rw [BitVec.toNat_and, BitVec.toNat_ofInt, h, Nat.and_two_pow_sub_one_eq_mod]
  have e : bits .and .i64 n 16777215 = IntKind.i64.wrap ((BitVec.ofInt 64 n &&& BitVec.ofInt 64 16777215).toNat : Nat) := rfl
  rw [e, key, IntKind.wrap_i64]
  omega
/-- A number below k. -/
theorem below_of (z k : Int) (hk : 0 < k) : ∃ p : Nat, (bits .and .i64 z 16777215).tmod k = (p : Int) ∧ (p : Int) < k := by
  have h := and24 z
  rw [Int.tmod_eq_emod_of_nonneg h.1]
  have h1 := Int.emod_nonneg (bits .and .i64 z 16777215) (show k ≠ 0 by omega)
  have h2 := Int.emod_lt_of_pos (bits .and .i64 z 16777215) hk
  exact ⟨((bits .and .i64 z 16777215) % k).toNat, by omega, by omega⟩

end Mk
end Go.Proofs.Ytokfcknfkhlmfaa

namespace Go.Proofs.Ytokfcknfkhlmfaa
open Go.RowKit
namespace Bps
open Acts (ActRd)
open Ups (sum)

/-- What Apply leaves. -/
def AppliedB (w : World) (r : Int × List UInt8) (e : Ending) (w' : World) : Prop :=
  ∃ A c, e = .returned (.tuple #[.slice A r.2.length c, .int .i64 r.1]) ∧ Own w' w.heap.size (.slice A r.2.length c) r.2 ∧ Fr [] w w'

theorem applied_fail (w W : World) (x : Int) (h : Fr [] w W) : AppliedB w (x, []) (.returned (.tuple #[.slice none 0 0, .int .i64 x])) W := ⟨none, 0, rfl, Own.none_ _ _, h⟩

theorem applyR_sum {i : Nat} {s1 s2 : BitVec 32} {L : List Act} {x : List UInt8} (h : ¬ (x.length = i ∧ sum x = s1)) : applyR i s1 s2 L x = (4, []) := by
  unfold applyR; rw [if_neg h]
theorem applyR_none {i : Nat} {s1 s2 : BitVec 32} {L : List Act} {x : List UInt8} (h : x.length = i ∧ sum x = s1) (hm : makeA L x = none) : applyR i s1 s2 L x = (5, []) := by
  unfold applyR; rw [if_pos h, hm]
theorem applyR_bad {i : Nat} {s1 s2 : BitVec 32} {L : List Act} {x out : List UInt8} (h : x.length = i ∧ sum x = s1) (hm : makeA L x = some out) (hs : sum out ≠ s2) : applyR i s1 s2 L x = (5, []) := by
  unfold applyR; rw [if_pos h, hm]; simp only; rw [if_neg hs]
theorem applyR_ok {i : Nat} {s1 s2 : BitVec 32} {L : List Act} {x out : List UInt8} (h : x.length = i ∧ sum x = s1) (hm : makeA L x = some out) (hs : sum out = s2) : applyR i s1 s2 L x = (0, out) := by
  unfold applyR; rw [if_pos h, hm]; simp only; rw [if_pos hs]

set_option maxRecDepth 100000 in
set_option maxHeartbeats 2000000 in
theorem apply_sum (w : World) (R S : Option Addr) (n c m d : Nat) (P : Pat) (x : List UInt8) (hP : Fine P) (hn : P.whole.length = n) (hr : Rd w R P.whole) (hc : n ≤ c) (hc2 : c ≤ maxLen) (hm : x.length = m) (hx : Rd w S x) (hmx : m ≤ 16777216) (hbad : ¬ (x.length = P.i ∧ sum x = P.s1)) :
    Calls Try.prog 10 #[.slice R n c, .slice S m d] w (AppliedB w (4, [])) := by
  have HX := Lib.hid hx
  have HM := Lib.hid hm
  have HPa := Lib.hid (parse_made w R n c P hP hn hr hc hc2)
  have e1 : ¬ (16777216 : Int) < m := by omega
  have HQ : Hid (∀ W, Fr [] w W → AppliedB w (4, []) (.returned (.tuple #[.slice none 0 0, .int .i64 4])) W) := Lib.hid fun W h => applied_fail w W 4 h
  generalize AppliedB w (4, []) = Q at *
  rw [hm] at hbad
  have Hbad := Lib.hid hbad
  clear hr hx hn hm hP hbad
  unfold Parsed at HPa
  obtain ⟨i, oo, s1, s2, mt, L⟩ := P
  simp only at HPa Hbad
  go_enter Try.func10, Try.ntmps10
  go_wp2_with fail
  refine HPa.out.mono ?_
  rintro e w1 ⟨gm, AL, cL, rfl, -, -, hf1⟩
  have HF1 := Lib.hid (hf1.alloc (.cells #[.int .i64 (i : Int), .int .i64 (oo : Int), .int .u32 (Crc.u s1), .int .u32 (Crc.u s2), .slice (some ⟨gm, 0, none⟩) mt.length mt.length, .slice AL L.length cL] 70))
  have hb1 := Blk.fresh w1 70 #[.int .i64 (i : Int), .int .i64 (oo : Int), .int .u32 (Crc.u s1), .int .u32 (Crc.u s2), .slice (some ⟨gm, 0, none⟩) mt.length mt.length, .slice AL L.length cL]
  obtain ⟨bq, hbq⟩ : ∃ bq, w1.heap.size = bq := ⟨_, rfl⟩
  rw [hbq] at hb1
  have HB1 := Lib.hid hb1
  clear hf1 HPa hb1
  go_upto_region 6 with fail
  generalize w1.alloc _ = w2 at *
  obtain ⟨y0, y1, y2, y3, y4, y5⟩ := blk6 HB1.out
  by_cases hlen : m = i
  · subst hlen
    have hsm : ¬ sum x = s1 := fun h => Hbad.out ⟨rfl, h⟩
    unfold sum at hsm
    obtain ⟨X, hX⟩ : ∃ X, Crc.next 0#32 x = X := ⟨_, rfl⟩
    have HXe := Lib.hid hX
    rw [hX] at hsm
    have hne : (Crc.u X != Crc.u s1) = true := by simp; exact fun h => hsm (Crc.u_inj h)
    clear hX
    go_region_law (go_simp; go_at_call 27; (with_reducible refine (Crc.sum_any _ S m d x HM.out (HX.out.later (HF1.out.drew) (by simp)) (by omega)).mono ?_); rintro e w3 ⟨rfl, hf3⟩; rw [HXe.out]; have hb3 := HB1.out.fr ((Fr.refl [] w2).drew.tr hf3) (by simp); obtain ⟨x0, x1, x2, x3, x4, x5⟩ := blk6 hb3; have HF3 : Hid (Fr [] w w3) := Lib.hid (HF1.out.drew.tr hf3); clear hf3 hb3)
    all_goals
      go_wp2
      exact HQ.out _ HF3.out
  · have hne : ((m : Int) == (i : Int)) = false := by simp; omega
    have hne2 : ¬ (m : Int) = (i : Int) := by omega
    go_quiet (fail)
    go_wp2
    exact HQ.out _ (HF1.out.drewN _)

end Bps
end Go.Proofs.Ytokfcknfkhlmfaa
