/-
  Contract of bps' (*maker).do, over the contracts of a deed's two functions.
-/
import Derived.Test.YtokfcknfkhlmfaaBpsAct
import Derived.Test.YtokfcknfkhlmfaaBpsRunMath
import Derived.Deep.DeepCutAuto
namespace Go.Proofs.Ytokfcknfkhlmfaa
open Go.RowKit
namespace Bps

/-- A maker at block p: the input's slice, what was made, both places; nothing of w0 has turned. -/
def Mkr (w0 w : World) (p : Nat) (X : Option Addr) (xn xc : Nat) (out : List UInt8) (s t : Int) : Prop :=
  ∃ A c, Blk w p 75 #[.slice X xn xc, .slice A out.length c, .int .i64 s, .int .i64 t] ∧ Own w w0.heap.size (.slice A out.length c) out ∧ w0.heap.size ≤ p ∧ Fr [] w0 w

theorem Mkr.later {w0 w w' : World} {p xn xc : Nat} {X : Option Addr} {out : List UInt8} {s t : Int} (h : Mkr w0 w p X xn xc out s t) (hf : Fr [] w w') : Mkr w0 w' p X xn xc out s t := by
  obtain ⟨A, c, h1, h2, h3, h4⟩ := h
  exact ⟨A, c, h1.fr hf (by simp), h2.fr hf (by simp), h3, h4.tr hf⟩
theorem Mkr.fr0 {w0 w : World} {p xn xc : Nat} {X : Option Addr} {out : List UInt8} {s t : Int} (h : Mkr w0 w p X xn xc out s t) : Fr [] w0 w := by
  obtain ⟨A, c, h1, h2, h3, h4⟩ := h
  exact h4
theorem Mkr.lt {w0 w : World} {p xn xc : Nat} {X : Option Addr} {out : List UInt8} {s t : Int} (h : Mkr w0 w p X xn xc out s t) : w0.heap.size ≤ p ∧ p < w.heap.size := by
  obtain ⟨A, c, h1, h2, h3, h4⟩ := h
  exact ⟨h3, h1.lt⟩

/-- What from leaves: the place of the first byte; the places are behind the bytes then. -/
def Placed (w0 : World) (p : Nat) (X : Option Addr) (xn xc : Nat) (out : List UInt8) (z s t : Int) (w : World) (e : Ending) (w' : World) : Prop :=
  e = .returned (.int .i64 z) ∧ Mkr w0 w' p X xn xc out s t ∧ Fr [p] w w'
/-- What bytes leaves. -/
def Given (l : List UInt8) (w : World) (e : Ending) (w' : World) : Prop :=
  ∃ B c, e = .returned (.slice B l.length c) ∧ Rd w' B l ∧ (B = none → c = 0) ∧ l.length ≤ c ∧ c ≤ maxLen ∧ Fr [] w w'

/-- Blocks other than p that hold no bytes are as they were. -/
def Keeps (p : Nat) (w w' : World) : Prop := ∀ k t cs, Blk w k t cs → k ≠ p → 5 ≠ t → Blk w' k t cs
theorem Keeps.tr {p : Nat} {a b c : World} (h : Keeps p a b) (h' : Keeps p b c) : Keeps p a c := fun k t cs hb hk ht => h' k t cs (h k t cs hb hk ht) hk ht
theorem keeps_fr {p : Nat} {w w' : World} {S : List Nat} (hf : Fr S w w') (hS : ∀ k ∈ S, k = p ∨ ∃ B v l, Own w B v l ∧ v.ownBlock = some k) : Keeps p w w' := by
  intro k t cs hb hk ht
  refine hb.fr hf fun hm => ?_
  rcases hS k hm with h | ⟨B, v, l, ho, he⟩
  · exact hk h
  · exact ho.other hb ht he

/-- What do leaves. -/
def Did (w0 w : World) (p : Nat) (X : Option Addr) (xn xc : Nat) (r : Option St) (e : Ending) (w' : World) : Prop :=
  (∀ st, r = some st → e = .returned (.int .i64 0) ∧ Mkr w0 w' p X xn xc st.out st.s st.t ∧ Keeps p w w') ∧ (r = none → e = .returned (.int .i64 5) ∧ Fr [] w0 w')

set_option maxRecDepth 100000 in
set_option maxHeartbeats 2000000 in
theorem do_gen (w0 w : World) (p : Nat) (X : Option Addr) (xn xc : Nat) (x : List UInt8) (st : St) (a : Act) (D : Option Addr) (c : Nat) (ff fb : Nat) (s' t' : Int)
    (hcf : ∀ args W, (callFunc ff args).run Try.prog W = .ok (.enter ff args) W) (hcb : ∀ args W, (callFunc fb args).run Try.prog W = .ok (.enter fb args) W)
    (hM : Mkr w0 w p X xn xc st.out st.s st.t) (ha : Ok a)
    (hfrom : ∀ W, Mkr w0 W p X xn xc st.out st.s st.t → Calls Try.prog ff #[.pointer (some ⟨p, 0, none⟩), actA a D c] W (Placed w0 p X xn xc st.out (at0_ a.kind (moved a st)) s' t' W))
    (hbytes : ∀ W out, Mkr w0 W p X xn xc out s' t' → Calls Try.prog fb #[.pointer (some ⟨p, 0, none⟩), actA a D c] W (Given (src a.kind x a.data out) W))
    (hs : s' = (if a.kind = 2 then (moved a st).s + a.len else (moved a st).s)) (ht : t' = (if a.kind = 3 then (moved a st).t + a.len else (moved a st).t))
    (hz0 : -4000000000000000000 ≤ at0_ a.kind (moved a st)) (hz1 : at0_ a.kind (moved a st) ≤ 4000000000000000000) (hxl : x.length ≤ 16777216) (hol : st.out.length + a.len ≤ 16777216) :
    Calls Try.prog 29 #[.pointer (some ⟨p, 0, none⟩), .agg #[.func (.func ff) #[.pointer (some ⟨p, 0, none⟩)] #[], .func (.func fb) #[.pointer (some ⟨p, 0, none⟩)] #[]], actA a D c] w (Did w0 w p X xn xc (act1 x a st)) := by
  obtain ⟨i0, hi, hzz0, hzz1, hzz2⟩ := info_parts info5
  have hk4 := ha.kind
  have hpos := ha.pos
  have hlm := ha.len
  have hdl : a.data.length ≤ 16777216 := by
    by_cases h1 : a.kind = 1
    · rw [ha.data h1]; omega
    · rw [ha.none_ h1]; simp
  unfold act1
  have HS := Lib.hid hs
  have HT := Lib.hid ht
  have ho1 : (moved a st).out = st.out := moved_out a st
  obtain ⟨st1, hst1⟩ : ∃ st1, moved a st = st1 := ⟨_, rfl⟩
  rw [hst1] at HS HT hz0 hz1 ho1 hfrom ⊢
  have HFr := Lib.hid hfrom
  have HBy := Lib.hid hbytes
  obtain ⟨z, hz⟩ : ∃ z, at0_ a.kind st1 = z := ⟨_, rfl⟩
  have HZ := Lib.hid hz
  rw [hz] at HFr hz0 hz1
  obtain ⟨R, hR⟩ : ∃ R, runs a.kind x a.data st1 a.len = R := ⟨_, rfl⟩
  have HR := Lib.hid hR
  rw [hR]
  have HM := Lib.hid hM
  have hlt := hM.lt
  have Ho1 := Lib.hid ho1
  clear hs ht hst1 hfrom hbytes hz hR hM ho1
  unfold actA at HFr HBy ⊢
  obtain ⟨sz, hsz⟩ : ∃ sz, w.heap.size = sz := ⟨_, rfl⟩
  rw [hsz] at hlt
  obtain ⟨kd, hkd⟩ : ∃ kd, a.kind = kd := ⟨_, rfl⟩
  obtain ⟨ln, hln⟩ : ∃ ln, a.len = ln := ⟨_, rfl⟩
  obtain ⟨mv, hmv⟩ : ∃ mv, a.move = mv := ⟨_, rfl⟩
  obtain ⟨da, hda⟩ : ∃ da, a.data = da := ⟨_, rfl⟩
  rw [hkd] at HFr HBy HZ HR HS HT hk4 ⊢
  rw [hln] at HFr HBy HR hpos hlm HS HT hol ⊢
  rw [hmv] at HFr HBy ⊢
  rw [hda] at HFr HBy HR hdl ⊢
  clear hkd hln hmv hda ha
  go_enter Try.func29, Try.ntmps29
  have hn1 := Blk.fresh w 79 #[.func (.func ff) #[.pointer (some ⟨p, 0, none⟩)] #[], .func (.func fb) #[.pointer (some ⟨p, 0, none⟩)] #[]]
  rw [hsz] at hn1
  have hal1 : Fr [] w (w.alloc (.cells #[.func (.func ff) #[.pointer (some ⟨p, 0, none⟩)] #[], .func (.func fb) #[.pointer (some ⟨p, 0, none⟩)] #[]] 79)) := (Fr.refl [] w).alloc _
  have hsz1 : (w.alloc (.cells #[.func (.func ff) #[.pointer (some ⟨p, 0, none⟩)] #[], .func (.func fb) #[.pointer (some ⟨p, 0, none⟩)] #[]] 79)).heap.size = sz + 1 := by simp [hsz]
  have hn2 := Blk.fresh (w.alloc (.cells #[.func (.func ff) #[.pointer (some ⟨p, 0, none⟩)] #[], .func (.func fb) #[.pointer (some ⟨p, 0, none⟩)] #[]] 79)) 82 #[.int .i64 (kd : Int), .int .i64 (ln : Int), .int .i64 mv, .slice D da.length c]
  rw [hsz1] at hn2
  have hal2 := hal1.alloc (.cells #[.int .i64 (kd : Int), .int .i64 (ln : Int), .int .i64 mv, .slice D da.length c] 82)
  have HN1 := Lib.hid (hn1.fr ((Fr.refl [] _).alloc (.cells #[.int .i64 (kd : Int), .int .i64 (ln : Int), .int .i64 mv, .slice D da.length c] 82)) (by simp))
  have HN2 := Lib.hid hn2
  have HAl := Lib.hid hal2
  clear hn1 hal1 hsz1 hn2 hal2
  go_wp2_with fail
  generalize (w.alloc _).alloc _ = w1 at *
  refine (HFr.out w1 (HM.out.later HAl.out)).mono ?_
  rintro e w2 ⟨rfl, hM2, hf2⟩
  have HM2 := Lib.hid hM2
  have hB1 := HN1.out.fr hf2 (by simp; omega)
  have hB2 := HN2.out.fr hf2 (by simp; omega)
  obtain ⟨y0, y1, y2, y3⟩ := blk4 hB2
  have HKp := Lib.hid ((keeps_fr (p := p) HAl.out (by simp)).tr (keeps_fr hf2 (by simp)))
  have HB1 := Lib.hid hB1
  have HB2 := Lib.hid hB2
  have hw1 : IntKind.i64.wrap (z + (ln : Int)) = z + (ln : Int) := by rw [IntKind.wrap_i64]; omega
  have hsz2 : sz + 1 < w2.heap.size := hB2.lt
  clear hM2 hf2 hB1 hB2 HN1 HN2 HAl HFr
  go_wp2_with fail
  go_loopw [7] (fun i wr => ∃ (j : Nat) (st' : St), j ≤ ln ∧ i = .int .i64 (z + (j : Int)) ∧ runs kd x da st1 j = some st' ∧ Mkr w0 wr p X xn xc st'.out s' t' ∧ Blk wr sz 79 #[.func (.func ff) #[.pointer (some ⟨p, 0, none⟩)] #[], .func (.func fb) #[.pointer (some ⟨p, 0, none⟩)] #[]] ∧ Blk wr (sz + 1) 82 #[.int .i64 (kd : Int), .int .i64 (ln : Int), .int .i64 mv, .slice D da.length c] ∧ Keeps p w wr) (fun i _ => (z + ln - intOf i).toNat)
  case atStart => exact ⟨0, st1, Nat.zero_le _, by simp, rfl, by rw [Ho1.out]; exact HM2.out, HB1.out, HB2.out, HKp.out⟩
  case round =>
    obtain ⟨j, st', hj, rfl, hrun, hM, hB1, hB2, hKp⟩ := hrel
    have HKr := Lib.hid hKp
    have HRun := Lib.hid hrun
    have HM := Lib.hid hM
    obtain ⟨d0, d1⟩ : wr.cell? ⟨sz, 0, none⟩ = some (.func (.func ff) #[.pointer (some ⟨p, 0, none⟩)] #[]) ∧ wr.cell? ⟨sz, 1, none⟩ = some (.func (.func fb) #[.pointer (some ⟨p, 0, none⟩)] #[]) := ⟨by rw [hB1.cell]; rfl, by rw [hB1.cell]; rfl⟩
    obtain ⟨q0, q1, q2, q3⟩ := blk4 hB2
    have HC1 := Lib.hid hB1
    have HC2 := Lib.hid hB2
    clear hrun hM hB1 hB2 HM2 HB1 HB2 hKp HKp
    by_cases hlt2 : j < ln
    · have e1 : z + (j : Int) < z + (ln : Int) := by omega
      obtain ⟨q, hq⟩ : ∃ q, z + (j : Int) = q := ⟨_, rfl⟩
      rw [hq] at e1 ⊢
      obtain ⟨be, hbe⟩ : ∃ be, z + (ln : Int) = be := ⟨_, rfl⟩
      rw [hbe] at e1 ⊢
      have Hq := Lib.hid hq
      have Hbe := Lib.hid hbe
      have hqb : q < 5000000000000000000 := by omega
      go_wp2_with fail
      refine (HBy.out wr st'.out HM.out).mono ?_
      rintro e w3 ⟨B, bc, rfl, hB, hBn, hnc, hcm, hf3⟩
      have HM3 := Lib.hid (HM.out.later hf3)
      have HK3 := Lib.hid (HKr.out.tr (keeps_fr hf3 (by simp)))
      have HC1' := Lib.hid (HC1.out.fr hf3 (by simp))
      have HC2' := Lib.hid (HC2.out.fr hf3 (by simp))
      have hsl : (src kd x da st'.out).length ≤ 33554432 := by
        have := (runs_places hk4 HRun.out).1
        rw [Ho1.out] at this
        unfold src
        split
        · omega
        · split <;> omega
      have HRm := Lib.hid (fun m (hm : ∀ p' : Nat, q = p' → p' + m ≤ (src kd x da st'.out).length) (p' : Nat) (hp : q = p') => runs_more kd hk4 x da st1 st' j p' m HRun.out (by rw [HZ.out, Hq.out, hp]) (hm p' hp))
      have HSt := Lib.hid (fun hb => runs_stuck kd hk4 x da st1 st' j ln q HRun.out (by rw [HZ.out, Hq.out]) hb hlt2)
      obtain ⟨sl, hsl'⟩ : ∃ sl, src kd x da st'.out = sl := ⟨_, rfl⟩
      rw [hsl'] at hB hnc hsl HRm HSt ⊢
      have HSl := Lib.hid hsl'
      obtain ⟨n, hn⟩ : ∃ n, sl.length = n := ⟨_, rfl⟩
      rw [hn] at hnc hsl HRm HSt ⊢
      have Hn := Lib.hid hn
      have HB := Lib.hid hB
      clear hB hf3 HM HC1 HC2 hq hbe hsl' hn
      unfold maxLen at hcm
      by_cases hbad : q < 0 ∨ (n : Int) ≤ q
      · have HN := Lib.hid (HSt.out hbad)
        by_cases hq0 : q < 0
        · go_wp2
          go_ret
          exact ⟨fun st hst => (by rw [← HR.out, HN.out] at hst; cases hst), fun _ => ⟨rfl, HM3.out.fr0⟩⟩
        · have hqn : (n : Int) ≤ q := by omega
          go_wp2
          go_ret
          exact ⟨fun st hst => (by rw [← HR.out, HN.out] at hst; cases hst), fun _ => ⟨rfl, HM3.out.fr0⟩⟩
      · have hq0 : ¬ q < 0 := by omega
        have hqn : ¬ (n : Int) ≤ q := by omega
        have hqn' : q < (n : Int) := by omega
        go_upto_region 7 with fail
        obtain ⟨P, hP⟩ : ∃ P : Nat, q = P := ⟨q.toNat, by omega⟩
        subst hP
        obtain ⟨BE, hBE⟩ : ∃ BE : Nat, be = BE := ⟨be.toNat, by omega⟩
        subst hBE
        obtain ⟨bb, bo, rfl, -⟩ := HB.out (by rw [Hn.out]; omega)
        obtain ⟨hi2, hhi⟩ : ∃ hi2, min BE n = hi2 := ⟨_, rfl⟩
        have hmin : min (BE : Int) (n : Int) = (hi2 : Int) := by omega
        have h1 : (P : Int) ≤ hi2 := by omega
        have h2 : P ≤ hi2 := by omega
        have h3 : (hi2 : Int) ≤ bc := by omega
        have h4 : hi2 ≤ bc := by omega
        have h5 : ¬ bc = P := by omega
        have h6 : (P : Int) ≤ bc := by omega
        have h7 : P ≤ bc := by omega
        obtain ⟨m, hm⟩ : ∃ m, hi2 - P = m := ⟨_, rfl⟩
        have hm0 : 0 < m := by omega
        have hmn : P + m ≤ n := by omega
        have hml : j + m ≤ ln := by have := Hq.out; have := Hbe.out; omega
        obtain ⟨st2, hst2, hout2⟩ := HRm.out m (fun p' hp => by have : P = p' := by omega
                                                                subst this; exact hmn) P rfl
        have hpl := runs_places hk4 HRun.out
        have hol2 : st'.out.length + m ≤ 16777216 := by rw [hpl.1, Ho1.out]; omega
        obtain ⟨A, cA, hK, hOw, hp0, hfr0⟩ := HM3.out
        obtain ⟨N, hN⟩ : ∃ N, st'.out.length = N := ⟨_, rfl⟩
        rw [hN] at hK hOw hol2
        obtain ⟨k0, k1, k2, k3⟩ := blk4 hK
        have g1 := hK.frozen 1
        have HK := Lib.hid hK
        have HOw := Lib.hid hOw
        have HN := Lib.hid hN
        have HF0 := Lib.hid hfr0
        have Hout2 := Lib.hid hout2
        have Hst2 := Lib.hid hst2
        have HNews : Hid (((sl.drop P).take m).length = m) := Lib.hid (by rw [List.length_take, List.length_drop, Hn.out]; omega)
        have HRd : Hid (Rd w3 (some ⟨bb, bo + P, none⟩) ((sl.drop P).take m)) := Lib.hid (by
          obtain ⟨b', o', e, hx⟩ := HB.out (by rw [Hn.out]; omega)
          cases e
          exact Rd.cut hx P m)
        have hs3 : w0.heap.size ≤ w3.heap.size := hfr0.size
        have hnp : ∀ k ∈ (Value.slice A N cA).ownBlock.toList, k ≠ p := by
          intro k hk e
          subst e
          exact hOw.other hK (by decide) (by simpa using hk)
        have hnq : ∀ k ∈ (Value.slice A N cA).ownBlock.toList, k ≠ sz := by
          intro k hk e
          subst e
          exact hOw.other HC1'.out (by decide) (by simpa using hk)
        have hnr : ∀ k ∈ (Value.slice A N cA).ownBlock.toList, k ≠ sz + 1 := by
          intro k hk e
          subst e
          exact hOw.other HC2'.out (by decide) (by simpa using hk)
        have Hnp := Lib.hid hnp
        have Hnq := Lib.hid hnq
        have Hnr := Lib.hid hnr
        have Hpl := Lib.hid hpl
        clear hK hOw hN hout2 hst2 hfr0 HM3 hpl hbad HRm HSt hnp hnq hnr hhi hq0 hqn hqn' hqb e1
        rw [show decide ((P : Int) < 0) = false by simp, show decide ((n : Int) ≤ (P : Int)) = false by simp; omega]
        go_wp2_with (at_builtin; refine wpList_appN _ rfl (.tmp 45) (.tmp 46) 22 rfl w0.heap.size i0 Try.underlying22 hi hzz0 hzz1 hzz2 (.slice A N cA) st'.out N HN.out rfl HOw.out (some ⟨bb, bo + P, none⟩) m (bc - P) ((sl.drop P).take m) rfl HNews.out HRd.out (by simp) (by omega) hs3 ?_)
        intro A4 c4 w4 ho4 hf4 _
        have hK4 := HK.out.fr hf4 (fun hm => Hnp.out p hm rfl)
        have HC4 := Lib.hid (HC1'.out.fr hf4 (fun hm => Hnq.out sz hm rfl))
        have HC5 := Lib.hid (HC2'.out.fr hf4 (fun hm => Hnr.out (sz + 1) hm rfl))
        have HF4 : Hid (Fr [] w0 w4) := Lib.hid (HF0.out.trans hf4 (fun k hk => .inr (HOw.out.lt k (by simpa using hk)).1))
        have HK5 := Lib.hid (HK3.out.tr (keeps_fr (p := p) hf4 (fun k hk => .inr ⟨_, _, _, HOw.out, by simpa using hk⟩)))
        obtain ⟨r0, r1, r2, r3⟩ := blk4 hK4
        have v1 := hK4.frozen 1
        have HK4 := Lib.hid hK4
        have HO4 := Lib.hid ho4
        have hw5 : IntKind.i64.wrap ((P : Int) + (m : Int)) = (P : Int) + (m : Int) := by rw [IntKind.wrap_i64]; omega
        clear ho4 hf4 hK4 HK HOw HC1' HC2' k0 k1 k2 k3 g1
        go_wp2
        go_roundw
        case rel =>
          have hst : Fr [p] w4 (w4.setCell ⟨p, 1, none⟩ (.slice A4 (N + m) c4)) := (Fr.refl [p] w4).setCell (by simp) _
          have hb := HK4.out.put 1 (.slice A4 (N + m) c4)
          simp only [List.setIfInBounds_toArray, List.set_cons_zero, List.set_cons_succ] at hb
          have hnl : st2.out.length = N + m := by rw [Hout2.out, List.length_append, HN.out, HNews.out]
          refine ⟨j + m, st2, hml, ?_, Hst2.out, ⟨A4, c4, by rw [hnl]; exact hb, ?_, hlt.1, HF4.out.setCell (.inr hlt.1) _⟩, HC4.out.fr hst (by simp; omega), HC5.out.fr hst (by simp; omega), HK5.out.tr (keeps_fr hst (by simp))⟩
          · have := Hq.out
            first
            | (congr 1; omega)
            | (go_num; omega)
          · rw [hnl, Hout2.out]
            refine HO4.out.fr hst (fun k hk hm => ?_)
            have := HO4.out.other HK4.out (by decide)
            simp at hm
            subst hm
            exact this hk
        case measure => simp [intOf]; omega
    · obtain rfl : j = ln := by omega
      go_wp2
      go_ret
      have hpl := runs_places hk4 HRun.out
      refine ⟨fun st hst => ⟨rfl, ?_⟩, fun hn => ?_⟩
      · rw [← HR.out, HRun.out] at hst
        cases hst
        rw [hpl.2.1, hpl.2.2, ← HS.out, ← HT.out]
        exact ⟨HM.out, HKr.out⟩
      · rw [← HR.out, HRun.out] at hn
        cases hn

end Bps
end Go.Proofs.Ytokfcknfkhlmfaa
