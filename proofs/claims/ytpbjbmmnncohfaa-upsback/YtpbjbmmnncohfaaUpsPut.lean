/-
  Contract of ups' putHunks.
-/
import Derived.Test.YtpbjbmmnncohfaaUpsBits
import Derived.Test.YtpbjbmmnncohfaaVarPut2
import Derived.Test.YtpbjbmmnncohfaaOctWrite3
namespace Go.Proofs.Ytpbjbmmnncohfaa
open Go.RowKit
namespace Ups

theorem hkB_length (h : Hk) (hs : h.skip ≤ Var.most) : (hkB h).length ≤ 6 + h.xs.length := by
  have := Var.putV_le5 hs
  simp [hkB]
  omega
theorem hk_len : ∀ (n g : Nat) (l : List UInt8), l.length ≤ n → g + l.length ≤ Var.most → ((hk g l).flatMap hkB).length ≤ 7 * l.length := by
  intro n
  induction n with
  | zero =>
    intro g l hl _
    obtain rfl : l = [] := List.eq_nil_of_length_eq_zero (by omega)
    rw [hk_nil]; simp
  | succ n ih =>
    intro g l hl hg
    cases l with
    | nil => rw [hk_nil]; simp
    | cons x t =>
      simp only [List.length_cons] at hl hg
      by_cases hx : x = 0
      · subst hx
        rw [hk_zero]
        have := ih (g + 1) t (by omega) (by omega)
        simp only [List.length_cons]
        omega
      · rw [hk_more g x t hx]
        have h1 := lead_le (x :: t)
        have h2 : 0 < (lead (x :: t)).length := by rw [lead_cons x t hx]; simp
        have h3 := ih 0 ((x :: t).drop ((lead (x :: t)).length + 1)) (by simp; omega) (by simp; omega)
        have h4 := hkB_length ⟨g, lead (x :: t)⟩ (by simp only; omega)
        simp only at h4
        rw [List.flatMap_cons, List.length_append]
        rw [List.length_drop] at h3
        simp only [List.length_cons] at *
        omega
theorem hk_step0 (g : Nat) (m : List UInt8) (k : Nat) (hk' : k < m.length) (h : (lead (m.drop k)).length = 0) : hk g (m.drop k) = hk (g + 1) (m.drop (k + 1)) := by
  rw [List.drop_eq_getElem_cons hk'] at h ⊢
  by_cases hx : m[k] = 0
  · rw [hx, hk_zero]
  · rw [lead_cons _ _ hx] at h; simp at h
theorem lead_take (l : List UInt8) (n : Nat) (h : (lead l).length = n) : lead l = l.take n := by
  have := (lead_drop l).1
  conv => rhs; rw [this, ← h]
  rw [List.take_left]
theorem hk_step (g : Nat) (m : List UInt8) (k n : Nat) (hk' : k < m.length) (h : (lead (m.drop k)).length = n) (hn : 0 < n) : hk g (m.drop k) = ⟨g, (m.drop k).take n⟩ :: hk 0 (m.drop (k + n + 1)) := by
  rw [← lead_take _ n h]
  have e : m.drop (k + n + 1) = (m.drop k).drop (n + 1) := by rw [List.drop_drop]; congr 1
  rw [e]
  rw [List.drop_eq_getElem_cons hk'] at h ⊢
  by_cases hx : m[k] = 0
  · rw [hx, lead_zero] at h; simp at h; omega
  · rw [hk_more _ _ _ hx, h]

/-- Between two rounds of putHunks. -/
structure PhI (w : World) (B q : Nat) (v : Value) (l m : List UInt8) (done : List Hk) (be k : Nat) (v' : Value) (W : World) : Prop where
  split : hk 0 m = done ++ hk (k - be) (m.drop k)
  low : be ≤ k
  high : k ≤ m.length + 1
  wr : Wr W B q v' (l ++ done.flatMap hkB)
  fr : Fr (foot q v) w W
  lies : Lies w v v'

theorem PhI.len {w : World} {B q : Nat} {v : Value} {l m : List UInt8} {done : List Hk} {be k : Nat} {v' : Value} {W : World} (h : PhI w B q v l m done be k v' W) (hm : m.length ≤ 16777216) : (done.flatMap hkB).length ≤ 117440512 := by
  have h1 := hk_len m.length 0 m (Nat.le_refl _) (by unfold Var.most; omega)
  rw [h.split, List.flatMap_append, List.length_append] at h1
  omega

theorem foot_tr {w w1 w2 : World} {p : Nat} {v v1 : Value} (h : Fr (foot p v) w w1) (hl : Lies w v v1) (h2 : Fr (foot p v1) w1 w2) : Fr (foot p v) w w2 := by
  refine h.trans h2 fun i hi => ?_
  simp only [foot, List.mem_cons, Option.mem_toList] at hi ⊢
  rcases hi with hi | hi
  · exact .inl (.inl hi)
  · rcases hl with e | ⟨k, hk, hle⟩
    · exact .inl (.inr (by rw [← e]; exact hi))
    · rw [hk] at hi; cases hi; exact .inr hle

/-- What putHunks leaves. -/
def HunksPut (w : World) (B q : Nat) (v : Value) (l : List UInt8) (e : Ending) (w' : World) : Prop :=
  e = .returned (.tuple #[]) ∧ ∃ v', Wr w' B q v' l ∧ Fr (foot q v) w w' ∧ Lies w v v'

set_option maxRecDepth 100000 in
set_option maxHeartbeats 1000000 in
theorem putHunks_any (w : World) (p g q B : Nat) (A C : Nat × BitVec 32) (m : List UInt8) (v : Value) (l : List UInt8) (h : Pt w p g A C m) (hw : Wr w B q v l) (hB : B ≤ w.heap.size) (hp : p < B) (hg : g < B) (hl : l.length ≤ 1000000) (hm : m.length ≤ 16777216) :
    Calls Try.prog 27 #[.pointer (some ⟨p, 0, none⟩), .pointer (some ⟨q, 0, none⟩)] w (HunksPut w B q v (l ++ (hk 0 m).flatMap hkB)) := by
  have hpq : p ≠ q := h.1.other hw.1 (by decide)
  have hgq : g ≠ q := h.2.other hw.1 (by decide)
  have hnot : ∀ j, j < B → j ≠ q → j ∉ foot q v := by
    intro j h1 h2
    simp only [foot, List.mem_cons, Option.mem_toList]
    rintro (h3 | h3)
    · exact h2 h3
    · have := (hw.2.lt j h3).1; omega
  have HPF : Hid (∀ W, Fr (foot q v) w W → Pt W p g A C m) := Lib.hid fun W hf => h.fr hf (hnot p hp hpq) (hnot g hg hgq)
  have H0 : Hid (PhI w B q v l m [] 0 0 v w) := Lib.hid ⟨by simp, Nat.le_refl _, Nat.zero_le _, by simpa using hw, Fr.refl _ _, Lies.refl _ _⟩
  have HQ : Hid (∀ W v', Wr W B q v' (l ++ (hk 0 m).flatMap hkB) → Fr (foot q v) w W → Lies w v v' → HunksPut w B q v (l ++ (hk 0 m).flatMap hkB) (.returned (.tuple #[])) W) := Lib.hid fun W v' h1 h2 h3 => ⟨rfl, v', h1, h2, h3⟩
  have Hm := Lib.hid hm
  obtain ⟨N, hN⟩ : ∃ N, m.length = N := ⟨_, rfl⟩
  have HN := Lib.hid hN
  rw [hN] at hm
  generalize HunksPut w B q v (l ++ (hk 0 m).flatMap hkB) = Q at *
  clear h hw hnot hpq hgq hN
  go_enter Try.func27, Try.ntmps27
  go_wp2_with fail
  go_loopw [4, 5] (fun s t wr => ∃ (be k : Nat) (done : List Hk) (v' : Value), s = .int .i64 (be : Int) ∧ t = .int .i64 (k : Int) ∧ PhI w B q v l m done be k v' wr) (fun _ t _ => N + 1 - (intOf t).toNat)
  case atStart => exact ⟨0, 0, [], v, rfl, rfl, H0.out⟩
  case round =>
    obtain ⟨be, k, done, v', rfl, rfl, hI⟩ := hrel
    have hP := HPF.out _ hI.fr
    have c4 := hP.1.cell 4
    simp at c4
    rw [HN.out] at c4
    have hlen := hI.len Hm.out
    have hbk := hI.low
    have hkN := hI.high
    rw [HN.out] at hkN
    have HI := Lib.hid hI
    have HP := Lib.hid hP
    clear hI hP H0
    by_cases hlt : k < N
    · have hlt' : (k : Int) < N := by omega
      obtain ⟨n, hn⟩ : ∃ n, (lead (m.drop k)).length = n := ⟨_, rfl⟩
      have hrow := row_any wr p g A C m k HP.out (by rw [HN.out]; exact hlt) (by rw [HN.out]; omega)
      rw [hn] at hrow
      have HRow := Lib.hid hrow
      have hnle : n ≤ N - k := by have := lead_le (m.drop k); rw [hn, List.length_drop, HN.out] at this; exact this
      have Hn := Lib.hid hn
      clear hrow hn
      go_wp2_with fail
      refine HRow.out.mono ?_
      rintro e w1 ⟨rfl, rfl⟩
      by_cases hn0 : n = 0
      · subst hn0
        go_wp2
        go_roundw
        case rel =>
          refine ⟨be, k + 1, done, v', rfl, by go_num, ⟨?_, by omega, by rw [HN.out]; omega, HI.out.wr, HI.out.fr, HI.out.lies⟩⟩
          rw [HI.out.split, hk_step0 _ m k (by rw [HN.out]; exact hlt) Hn.out]
          congr 2
          omega
        case measure => simp [intOf]; omega
      · have hn1 : ¬ (n : Int) = 0 := by omega
        have hn2 : ((n : Int) == 0) = false := by simp; omega
        obtain ⟨sk, hsk⟩ : ∃ sk, k - be = sk := ⟨_, rfl⟩
        have hsk' : (k : Int) - (be : Int) = (sk : Int) := by omega
        have hskm : sk ≤ 16777216 := by omega
        have hwr : IntKind.u64.wrap (sk : Int) = (sk : Int) := by rw [IntKind.wrap_u64]; omega
        have hwi : IntKind.i64.wrap (sk : Int) = (sk : Int) := by rw [IntKind.wrap_i64]; omega
        obtain ⟨t, ht⟩ : ∃ t, k + n = t := ⟨_, rfl⟩
        have hkt : (k : Int) + (n : Int) = (t : Int) := by omega
        have hwt : IntKind.i64.wrap (t : Int) = (t : Int) := by rw [IntKind.wrap_i64]; omega
        have htk : k ≤ t := by omega
        have htN : t ≤ N := by omega
        have htN' : (t : Int) ≤ N := by omega
        have ht0 : (0 : Int) ≤ t := by omega
        have htn : t - k = n := by omega
        have hNk : ¬ N = k := by omega
        have HStep : Hid (hk 0 m = (done ++ [⟨sk, (m.drop k).take n⟩]) ++ hk 0 (m.drop (k + n + 1))) := Lib.hid (by
          rw [HI.out.split, hsk, hk_step _ m k n (by rw [HN.out]; exact hlt) Hn.out (by omega), List.append_assoc]
          rfl)
        obtain ⟨P, hP⟩ : ∃ P, (Var.putV sk).length = P := ⟨_, rfl⟩
        have hP5 : P ≤ 5 := by rw [← hP]; exact Var.putV_le5 (by unfold Var.most; omega)
        have HT : Hid (((m.drop k).take n).length = n) := Lib.hid (by rw [List.length_take, List.length_drop, HN.out]; omega)
        obtain ⟨L2, hL2⟩ : ∃ L2, L2 = (l ++ done.flatMap hkB) ++ Var.putV sk := ⟨_, rfl⟩
        obtain ⟨L3, hL3⟩ : ∃ L3, L3 = L2 ++ (m.drop k).take n := ⟨_, rfl⟩
        have HL4 : Hid (L3 ++ [0] = l ++ (done ++ [Hk.mk sk ((m.drop k).take n)]).flatMap hkB) := Lib.hid (by rw [hL3, hL2]; simp [hkB, List.flatMap_append, List.append_assoc])
        have hl2 : L2.length ≤ 200000000 := by rw [hL2, List.length_append, List.length_append, hP]; omega
        have hl3 : L3.length ≤ 300000000 := by rw [hL3, List.length_append, HT.out]; omega
        have hs1 : B ≤ w1.heap.size := Nat.le_trans hB HI.out.fr.size
        have C1 : Hid (Calls Try.prog 26 #[.int .u64 (sk : Int)] w1.drew fun e w' => ∃ V, e = .returned V ∧ (∃ g, V = .slice (some ⟨g, 0, none⟩) P P ∧ Blk w' g 5 (bv (Var.putV sk)).toArray) ∧ Fr [] w1.drew w') := Lib.hid (by rw [← hP]; exact (Var.put_any w1.drew sk (by unfold Var.most; omega)).mono fun e w' ⟨g, h1, _, h3, h4⟩ => ⟨_, h1, ⟨g, rfl, h3⟩, h4⟩)
        have C2 : Hid (∀ w2 V, Fr [] w1.drew w2 → (∃ g, V = Value.slice (some ⟨g, 0, none⟩) P P ∧ Blk w2 g 5 (bv (Var.putV sk)).toArray) → Calls Try.prog 25 #[.pointer (some ⟨q, 0, none⟩), V] w2 (Wrote w2 B q v' L2)) := Lib.hid (by
          rintro w2 V h1 ⟨g2, rfl, h2⟩
          rw [hL2]
          exact wbytes w2 B q v' _ (some ⟨g2, 0, none⟩) P P (Var.putV sk) (HI.out.wr.fr ((Fr.refl [] w1).drew.tr h1) (by simp) (by simp)) (Nat.le_trans hs1 h1.size) (by rw [List.length_append]; omega) hP (rd_blk h2) (by simp))
        have C3 : Hid (∀ w3 v3, Wr w3 B q v3 L2 → Fr (foot q v) w w3 → Calls Try.prog 25 #[.pointer (some ⟨q, 0, none⟩), .slice (some ⟨g, k, none⟩) n (N - k)] w3 (Wrote w3 B q v3 L3)) := Lib.hid (by
          intro w3 v3 h1 h2
          rw [hL3]
          refine wbytes w3 B q v3 _ (some ⟨g, k, none⟩) n (N - k) ((m.drop k).take n) h1 (Nat.le_trans hB h2.size) (by omega) HT.out ?_ (by simp)
          have hr := Rd.cut ((HPF.out w3 h2).2.rd (l := m) (by rw [List.take_of_length_le (by simp [bv_length])])) k n
          rw [Nat.zero_add] at hr
          exact hr)
        have C4 : Hid (∀ w4 v4, Wr w4 B q v4 L3 → Fr (foot q v) w w4 → Calls Try.prog 36 #[.pointer (some ⟨q, 0, none⟩), .int .u8 0] w4 (Wrote w4 B q v4 (L3 ++ [0]))) := Lib.hid (by
          intro w4 v4 h1 h2
          exact wbyte w4 B q v4 L3 0 h1 (Nat.le_trans hB h2.size) (by omega))
        have o4 : Hid (∀ W, Fr (foot q v) w W → W.cell? ⟨p, 4, none⟩ = some (.slice (some ⟨g, 0, none⟩) N N)) := Lib.hid (by
          intro W hf
          have h1 := (HPF.out W hf).1.cell 4
          rw [HN.out] at h1
          simpa using h1)
        have hk0 : (0 : Int) ≤ k := by omega
        have Ht := Lib.hid ht
        clear HRow hL2 hL3 hP hlen hl hsk ht
        go_wp2_with fail
        go_region_law (first
          | (go_simp; go_at_call 26; (with_reducible refine C1.out.mono ?_); rintro e w2 ⟨V, rfl, hb2, hf2⟩; have HB2 := Lib.hid hb2; have HD2 := Lib.hid hf2; have HF2 : Hid (Fr (foot q v) w w2) := Lib.hid (HI.out.fr.tr ((Fr.refl [] w1).drew.tr hf2).nil); have c2 := o4.out _ HF2.out; clear hb2 hf2)
          | (go_simp; go_at_call_of 25 V; (with_reducible refine (C2.out w2 V HD2.out HB2.out).mono ?_); rintro e w3 ⟨rfl, v3, hw3, hf3, hl3'⟩; have HW3 := Lib.hid hw3; have HL3 : Hid (Lies w v v3) := Lib.hid (HI.out.lies.trans hl3' HF2.out.size); have HF3 : Hid (Fr (foot q v) w w3) := Lib.hid (foot_tr HF2.out HI.out.lies hf3); have c3 := o4.out _ HF3.out; clear hw3 hf3 hl3')
          | (go_simp; go_at_call 25; (with_reducible refine (C3.out w3 v3 HW3.out HF3.out).mono ?_); rintro e w4 ⟨rfl, v4, hw4, hf4, hl4'⟩; have HW4 := Lib.hid hw4; have HL4' : Hid (Lies w v v4) := Lib.hid (HL3.out.trans hl4' HF3.out.size); have HF4 : Hid (Fr (foot q v) w w4) := Lib.hid (foot_tr HF3.out HL3.out hf4); clear hw4 hf4 hl4')
          | (go_simp; go_at_call 36; (with_reducible refine (C4.out w4 v4 HW4.out HF4.out).mono ?_); rintro e w5 ⟨rfl, v5, hw5, hf5, hl5'⟩; have HW5 := Lib.hid hw5; have HL5 : Hid (Lies w v v5) := Lib.hid (HL4'.out.trans hl5' HF4.out.size); have HF5 : Hid (Fr (foot q v) w w5) := Lib.hid (foot_tr HF4.out HL4'.out hf5); clear hw5 hf5 hl5'))
        all_goals
          have HN1 : Hid (PhI w B q v l m (done ++ [⟨sk, (m.drop k).take n⟩]) (t + 1) (t + 1) v5 w5) := Lib.hid (by
            refine ⟨?_, Nat.le_refl _, by rw [HN.out]; omega, ?_, HF5.out, HL5.out⟩
            · rw [Nat.sub_self, ← Ht.out]; exact HStep.out
            · rw [← HL4.out]; exact HW5.out)
          clear c2 c4
          go_wp2
          go_roundw
          case rel => exact ⟨t + 1, t + 1, _, v5, by go_num, by go_num, HN1.out⟩
          case measure => simp [intOf]; omega
    · have hlt' : ¬ (k : Int) < N := by omega
      go_wp2_with fail
      go_end0
      refine HQ.out _ v' ?_ HI.out.fr HI.out.lies
      have h1 := HI.out.split
      rw [List.drop_eq_nil_of_le (by rw [HN.out]; omega), hk_nil, List.append_nil] at h1
      rw [h1]
      exact HI.out.wr

end Ups
end Go.Proofs.Ytpbjbmmnncohfaa
