/-
  picklocklaw01.OctetParts returns true for every input: bytes that are read in parts are the bytes. No condition.
-/
import Derived.Test.YtgmngkhjjimelaaOwnLaw
namespace Go.Proofs.Ytgmngkhjjimelaa
open Go.RowKit

/-- What a reading of z bytes does at place p of m: the error E, the bytes X, the new place p'. -/
def Step (m : List UInt8) (p : Nat) (z E : Int) (X : List UInt8) (p' : Nat) : Prop :=
  p' ≤ m.length ∧ p + X.length = p' ∧ m.take p' = m.take p ++ X ∧ (E = 0 ∨ (E = 1 ∧ z < 0 ∧ X = [] ∧ p' = p) ∨ (E = 2 ∧ 0 ≤ z ∧ (m.length : Int) - p < z ∧ X = [] ∧ p' = p))

theorem step_of (m : List UInt8) (p : Nat) (z : Int) (hp : p ≤ m.length) : Step m p z (eB m p z) (oB (eB m p z) m p z) (kB (eB m p z) p z) := by
  by_cases h1 : z < 0
  · have e1 : eB m p z = 1 := by simp [eB, h1]
    rw [e1]
    exact ⟨by simp [kB, hp], by simp [oB, kB], by simp [oB, kB], .inr (.inl ⟨rfl, h1, by simp [oB], by simp [kB]⟩)⟩
  · by_cases h2 : (m.length : Int) - p < z
    · have e1 : eB m p z = 2 := by simp [eB, h1, h2]
      rw [e1]
      exact ⟨by simp [kB, hp], by simp [oB, kB], by simp [oB, kB], .inr (.inr ⟨rfl, by omega, h2, by simp [oB], by simp [kB]⟩)⟩
    · have e1 : eB m p z = 0 := by simp [eB, h1, h2]
      rw [e1]
      refine ⟨by simp [kB]; omega, by simp [oB, kB]; omega, ?_, .inl rfl⟩
      simp only [oB, kB, if_true]
      rw [List.take_add]

/-- The reading, with its outcome named. -/
theorem parts_read (w : World) (q g p : Nat) (m : List UInt8) (z : Int) (h : Rdr w q g m p) (hl : m.length ≤ 1000000000) (hp : p ≤ m.length) :
    ∃ E X p', Step m p z E X p' ∧ Calls Try.prog 10 #[.pointer (some ⟨q, 0, none⟩), .int .i64 z] w fun e w' => ∃ A c, e = .returned (.tuple #[.slice A X.length c, .int .i64 E]) ∧ Rd w' A X ∧ (A = none → c = 0) ∧ Rdr w' q g m p' ∧ Fr [q] w w' :=
  ⟨_, _, _, step_of m p z hp, (rbytesU w q g p m z h hl hp).mono fun _ _ ⟨A, c, h1, h2, _, h4, h5, h6⟩ => ⟨A, c, h1, h2, h4, h5, h6⟩⟩

theorem wpList_appN {P : Program} (w : World) {ops : Array Oper} {rest : List Oper} {o : Oper} {a : Act} {Q : Exit → Act → World → Prop} (hgd : o.guard = none) (s x : Operand) (t : TypeId)
    (ho : o.op = .call { callee := .builtin .append, args := #[s, x], argTypes := #[t, t] }) (B : Nat) (i : TypeInfo) (ht : P.underlying t = some (.slice 5)) (hi : P.info? 5 = some i) (hz : i.zero = some (.int .u8 0)) (hz1 : i.size = 1) (hz2 : i.bytes = 1)
    (v : Value) (l : List UInt8) (k : Nat) (hk : l.length = k) (hs : a.eval s = v) (hown : Own w B v l) (A : Option Addr) (m c : Nat) (news : List UInt8) (hx : a.eval x = .slice A m c) (hm : news.length = m) (hr : Rd w A news) (hc : A = none → c = 0)
    (hlen : k + m ≤ 2000000000) (hB : B ≤ w.heap.size)
    (h : ∀ A' cap' w', Own w' B (.slice A' (k + m) cap') (l ++ news) → Fr v.ownBlock.toList w w' → Lies w v (.slice A' (k + m) cap') → wpList P ops Q rest (a.put o.dst (.slice A' (k + m) cap')) w') : wpList P ops Q (o :: rest) a w := by
  subst hk
  exact wpList_app w hgd s x t ho B i ht hi hz hz1 hz2 v l hs hown A m c news hx hm hr hc hlen hB h

theorem Own.caps {w : World} {B n c : Nat} {A : Option Addr} {l : List UInt8} (h : Own w B (.slice A n c) l) : n ≤ c ∧ c ≤ 9223372036854775807 := by
  obtain ⟨_, _, hv, _, _, h1, h2, _⟩ := h.slice
  cases hv
  unfold maxLen at h2
  exact ⟨h1, by omega⟩

theorem leftN (w : World) (p g k n : Nat) (l : List UInt8) (hn : l.length = n) (h : Rdr w p g l k) (hk : k ≤ n) (hl : n ≤ 1000000000) :
    Calls Try.prog 18 #[.pointer (some ⟨p, 0, none⟩)] w fun e w' => e = .returned (.int .i64 ((n : Int) - k)) ∧ ∃ m, w' = w.drewN m := by
  subst hn
  exact left_any w p g k l h hk hl

set_option maxRecDepth 100000 in
set_option maxHeartbeats 4000000 in
theorem parts_walk (a0 : Option Addr) (cap0 : Nat) (l : List UInt8) (a1 : Option Addr) (cap1 : Nat) (zs : List Int) (w : World) (hr : Rd w a0 l) (hc : a0 = none → cap0 = 0) (hlc : l.length ≤ cap0) (_hcm : cap0 ≤ maxLen)
    (hr1 : RdI .i64 w a1 zs) (_hlc1 : zs.length ≤ cap1) (_hcm1 : cap1 ≤ maxLen) :
    Calls Try.prog 6 #[.slice a0 l.length cap0, .slice a1 zs.length cap1] w fun e w' => e = .returned (.bool true) ∧ Below w.heap.size w w' := by
  obtain ⟨i0, hi, hz0, hz1, hz2⟩ := info_parts info5
  have HR := Lib.hid hr
  have HC := Lib.hid hc
  have HZ := Lib.hid hr1
  have HL := Lib.hid (take_len l 500 (by omega))
  have hcnt : (min (l.length : Int) 500).toNat ≤ 500 := by omega
  unfold maxLen at _hcm _hcm1
  clear hr hc hr1
  go_enter Try.func6, Try.ntmps6
  go_wp2_with (first
    | (go_at_call 8; refine (shown_any _).mono ?_; rintro e w1 ⟨rfl, hf1⟩; have HF1 := Lib.hid hf1; have hs1 := hf1.size; clear hf1)
    | (at_builtin; refine wpList_app _ rfl (.tmp 13) (.tmp 18) 22 rfl w.heap.size i0 Try.underlying22 hi hz0 hz1 hz2 _ [] rfl (Own.empty w1 _ hs1) a0 _ cap0 (l.take (min (l.length : Int) 500).toNat) rfl HL.out (rd_take (HR.out.later (HF1.out.alloc _) (by simp)) _) HC.out (by simp; omega) (by simp; omega) ?_))
  intro A1 c1 w2 ho2 hf2 _
  have HF2 : Hid (Fr [] w w2) := (HF1.out.alloc _).trans hf2 (by simp [Value.ownBlock]; omega)
  have HM : Hid ((l.take (min (l.length : Int) 500).toNat).length = (min (l.length : Int) 500).toNat) := HL.out
  have HO2 := Lib.hid ho2
  have hs2 := HF2.out.size
  clear ho2 hf2 HL HR HC hlc hs1
  generalize (min (l.length : Int) 500).toNat = n at *
  generalize l.take n = m at *
  obtain ⟨hnc1, hnc2⟩ := HO2.out.caps
  go_wp2_with fail
  refine (newReader_any A1 n c1 m _ HM.out HO2.out.rd (by omega)).mono ?_
  rintro e w3 ⟨q, rfl, hq, hq2, hf3⟩
  have HQ := Lib.hid hq
  have HF3 := Lib.hid hf3
  have hs3 := hf3.size
  have hq3 := hq.1.lt
  have HO3 := Lib.hid (HO2.out.fr hf3 (by simp))
  have HAQ : Hid ((Value.slice A1 n c1).ownBlock ≠ some q) := HO3.out.other hq.1 (by decide)
  clear hq hf3
  go_wp2
  go_loopw [7, 8] (fun o i wr => ∃ k p : Nat, (k ≤ zs.length ∧ k ≤ 50) ∧ p ≤ n ∧ i = .int .i64 k ∧ Rdr wr q w2.heap.size m p ∧ Own wr w3.heap.size o (m.take p) ∧ Fr [q] w3 wr) (fun _ i _ => 50 - (intOf i).toNat)
  case atStart => exact ⟨0, 0, by omega, by omega, rfl, HQ.out.fr ((Fr.refl [] _).alloc _) (by simp) (by simp), by simpa using Own.empty w3 w3.heap.size (Nat.le_refl _), (Fr.refl _ _).alloc _⟩
  case round =>
    obtain ⟨k, p, ⟨hkl, hk50⟩, hpn, rfl, hrd, ho, hfr⟩ := hrel
    have HRD := Lib.hid hrd
    have HO := Lib.hid ho
    have HFR := Lib.hid hfr
    have hsr := hfr.size
    obtain ⟨t, ht⟩ : ∃ t, t = m.take p := ⟨_, rfl⟩
    rw [← ht] at HO
    have htl : t.length = p := by rw [ht, List.length_take, HM.out]; omega
    obtain ⟨Ao, co, hv, -⟩ := HO.out.slice
    rw [htl] at hv
    subst hv
    have HT := Lib.hid ht
    have HTL := Lib.hid htl
    clear hrd ho hfr ht htl
    by_cases hgo : k < zs.length ∧ k < 50
    · obtain ⟨hlt, hlt50⟩ := hgo
      obtain ⟨b, o, rfl, hc⟩ := HZ.out (by omega)
      have hck := hc k hlt
      clear hc
      generalize zs[k] = z at *
      have HC0 : Hid (w.cell? ⟨b, o + k, none⟩ = some (.int .i64 z)) := hck
      have HW3 : Hid (Fr [] w w3) := HF2.out.tr HF3.out
      have hck1 := (HW3.out.trans HFR.out (by simp; omega)).cell hck (by simp)
      clear hck
      obtain ⟨E, X, p', hst, hcall⟩ := parts_read wr q _ p m z HRD.out (by have := HM.out; omega) (by have := HM.out; omega)
      have HST := Lib.hid hst
      have HCL := Lib.hid hcall
      clear hst hcall
      go_wp2_with fail
      refine (at_any wr q _ p m HRD.out).mono ?_
      rintro e w4 ⟨rfl, rfl⟩
      go_wp2_with fail
      refine HCL.out.mono ?_
      rintro e w5 ⟨A, c, rfl, hx, hxc, hrd5, hf5⟩
      have HX := Lib.hid hx
      have HXC := Lib.hid hxc
      have HR5 := Lib.hid hrd5
      have HF5 := Lib.hid hf5
      have HO5 := Lib.hid (HO.out.fr hf5 (fun j hj h => by simp at h; subst h; exact HO.out.other HRD.out.1 (by decide) hj))
      have hs5 := hf5.size
      clear hx hxc hrd5 hf5
      obtain ⟨hp1, hp2, hp3, hE⟩ := HST.out
      have HP3 := Lib.hid hp3
      have hp1' : p' ≤ n := by have := HM.out; omega
      clear hp3 hp1
      have hck5 := ((HW3.out.trans HFR.out (by simp; omega)).trans HF5.out (by simp; omega)).cell HC0.out (by simp)
      rcases hE with rfl | ⟨rfl, hz, rfl, rfl⟩ | ⟨rfl, hz, hz', rfl, rfl⟩
      · subst hp2
        go_wp2_with (at_builtin; refine wpList_appN _ rfl (.tmp 77) (.tmp 78) 22 rfl w3.heap.size i0 Try.underlying22 hi hz0 hz1 hz2 (.slice Ao p co) t p HTL.out rfl HO5.out A _ c _ rfl rfl HX.out HXC.out (by first | omega | (simp; omega)) (by omega) ?_)
        intro A6 c6 w6 ho6 hf6 _
        have HO6 : Hid (Own w6 w3.heap.size (.slice A6 (p + X.length) c6) (m.take (p + X.length))) := by rw [HP3.out, ← HT.out]; exact ho6
        have HS6 : Hid (∀ j ∈ (Value.slice Ao p co).ownBlock.toList, w3.heap.size ≤ j ∧ j ≠ q) := fun j hj => ⟨(HO5.out.lt j (by simpa using hj)).1, fun e => HO5.out.other HR5.out.1 (by decide) (by rw [← e]; simpa using hj)⟩
        have HR6 := Lib.hid (HR5.out.fr hf6 (fun h => (HS6.out _ h).2 rfl) (fun h => by have := (HS6.out _ h).1; omega))
        have HF6 : Hid (Fr [q] w3 w6) := (HFR.out.tr HF5.out).trans hf6 (fun j hj => .inr (HS6.out j hj).1)
        clear ho6 hf6
        go_wp2_with fail
        refine (at_any w6 q _ (p + X.length) m HR6.out).mono ?_
        rintro e w7 ⟨rfl, rfl⟩
        go_wp2_with fail
        refine (leftN w6 q _ (p + X.length) n m HM.out HR6.out (by omega) (by omega)).mono ?_
        rintro e w7 ⟨rfl, mm, rfl⟩
        go_wp2
        go_roundw
        case rel => exact ⟨k + 1, p + X.length, by omega, by omega, by go_num, HR6.out.fr ((Fr.refl [] w6).drewN mm) (by simp) (by simp), HO6.out.fr ((Fr.refl [] w6).drewN mm) (by simp), HF6.out.drewN mm⟩
        case measure => simp [intOf]; omega
      · go_wp2_with fail
        refine (at_any w5 q _ p' m HR5.out).mono ?_
        rintro e w6 ⟨rfl, rfl⟩
        go_wp2_with (at_builtin; refine wpList_appN _ rfl (.tmp 77) (.tmp 78) 22 rfl w3.heap.size i0 Try.underlying22 hi hz0 hz1 hz2 (.slice Ao p' co) t p' HTL.out rfl HO5.out A _ c _ rfl rfl HX.out HXC.out (by first | omega | (simp; omega)) (by omega) ?_)
        intro A6 c6 w6 ho6 hf6 _
        have HO6 : Hid (Own w6 w3.heap.size (.slice A6 (p') c6) (m.take (p'))) := by rw [← HT.out]; exact ho6
        have HS6 : Hid (∀ j ∈ (Value.slice Ao p' co).ownBlock.toList, w3.heap.size ≤ j ∧ j ≠ q) := fun j hj => ⟨(HO5.out.lt j (by simpa using hj)).1, fun e => HO5.out.other HR5.out.1 (by decide) (by rw [← e]; simpa using hj)⟩
        have HR6 := Lib.hid (HR5.out.fr hf6 (fun h => (HS6.out _ h).2 rfl) (fun h => by have := (HS6.out _ h).1; omega))
        have HF6 : Hid (Fr [q] w3 w6) := (HFR.out.tr HF5.out).trans hf6 (fun j hj => .inr (HS6.out j hj).1)
        clear ho6 hf6
        go_wp2_with fail
        refine (at_any w6 q _ (p') m HR6.out).mono ?_
        rintro e w7 ⟨rfl, rfl⟩
        go_wp2_with fail
        refine (leftN w6 q _ (p') n m HM.out HR6.out (by omega) (by omega)).mono ?_
        rintro e w7 ⟨rfl, mm, rfl⟩
        go_wp2
        go_roundw
        case rel => exact ⟨k + 1, p', by omega, by omega, by go_num, HR6.out.fr ((Fr.refl [] w6).drewN mm) (by simp) (by simp), HO6.out.fr ((Fr.refl [] w6).drewN mm) (by simp), HF6.out.drewN mm⟩
        case measure => simp [intOf]; omega
      · have hz2' : (n : Int) - p' < z := by have := HM.out; omega
        go_wp2_with fail
        refine (at_any w5 q _ p' m HR5.out).mono ?_
        rintro e w6 ⟨rfl, rfl⟩
        go_wp2_with (at_builtin; refine wpList_appN _ rfl (.tmp 77) (.tmp 78) 22 rfl w3.heap.size i0 Try.underlying22 hi hz0 hz1 hz2 (.slice Ao p' co) t p' HTL.out rfl HO5.out A _ c _ rfl rfl HX.out HXC.out (by first | omega | (simp; omega)) (by omega) ?_)
        intro A6 c6 w6 ho6 hf6 _
        have HO6 : Hid (Own w6 w3.heap.size (.slice A6 (p') c6) (m.take (p'))) := by rw [← HT.out]; exact ho6
        have HS6 : Hid (∀ j ∈ (Value.slice Ao p' co).ownBlock.toList, w3.heap.size ≤ j ∧ j ≠ q) := fun j hj => ⟨(HO5.out.lt j (by simpa using hj)).1, fun e => HO5.out.other HR5.out.1 (by decide) (by rw [← e]; simpa using hj)⟩
        have HR6 := Lib.hid (HR5.out.fr hf6 (fun h => (HS6.out _ h).2 rfl) (fun h => by have := (HS6.out _ h).1; omega))
        have HF6 : Hid (Fr [q] w3 w6) := (HFR.out.tr HF5.out).trans hf6 (fun j hj => .inr (HS6.out j hj).1)
        clear ho6 hf6
        go_wp2_with fail
        refine (at_any w6 q _ (p') m HR6.out).mono ?_
        rintro e w7 ⟨rfl, rfl⟩
        go_wp2_with fail
        refine (leftN w6 q _ (p') n m HM.out HR6.out (by omega) (by omega)).mono ?_
        rintro e w7 ⟨rfl, mm, rfl⟩
        go_wp2
        go_roundw
        case rel => exact ⟨k + 1, p', by omega, by omega, by go_num, HR6.out.fr ((Fr.refl [] w6).drewN mm) (by simp) (by simp), HO6.out.fr ((Fr.refl [] w6).drewN mm) (by simp), HF6.out.drewN mm⟩
        case measure => simp [intOf]; omega
    · have HRB : Hid (Rd wr A1 t) := by
        rw [HT.out]
        exact rd_take (HO3.out.fr HFR.out (fun j hj h => by simp at h; subst h; exact HAQ.out hj)).rd p
      have HRO : Hid (Rd wr Ao t) := HO.out.rd
      rcases (show (k < zs.length ∧ ¬ k < 50) ∨ ¬ k < zs.length by omega) with ⟨hlt, h50⟩ | hlt
      all_goals
        go_wp2_with fail
        refine (same_eq wr Ao A1 p p co _ t HTL.out HTL.out HRO.out HRB.out).mono ?_
        rintro e w6 ⟨rfl, rfl⟩
        go_wp2
        go_ret
        exact ⟨rfl, ((HF2.out.tr HF3.out).trans HFR.out (by simp; omega)).below (by simp) (Nat.le_refl _)⟩

end Go.Proofs.Ytgmngkhjjimelaa
