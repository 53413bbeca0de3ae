/-
  picklocklaw01.OctetOwn returns true for every input: what was handed in may be written over, and so may what was told. No condition.
-/
import Derived.Test.YtgmngkhjjimelaaArgs
namespace Go.Proofs.Ytgmngkhjjimelaa
open Go.RowKit

theorem take_len (l : List UInt8) (n : Int) (hn : 0 ≤ n) : (l.take (min (l.length : Int) n).toNat).length = (min (l.length : Int) n).toNat := by
  simp; omega

theorem Own.rd {w : World} {B n c : Nat} {A : Option Addr} {l : List UInt8} (h : Own w B (.slice A n c) l) : Rd w A l := by
  obtain ⟨_, _, hv, hr, _⟩ := h.slice
  cases hv
  exact hr

/-- The block of an own slice is new. -/
theorem Own.fresh {w w' : World} {v : Value} {l : List UInt8} (h : Own w' w.heap.size v l) : ∀ k ∈ v.ownBlock.toList, w.heap.size ≤ k := by
  intro k hk
  exact (h.lt k (by simpa using hk)).1

theorem wdoneN (w : World) (B p : Nat) (v : Value) (l : List UInt8) (n : Nat) (hn : l.length = n) (h : Wr w B p v l) (hl : n ≤ 1000000000) :
    Calls Try.prog 25 #[.pointer (some ⟨p, 0, none⟩)] w fun e w' => e = .returned (.slice (some ⟨w.heap.size, 0, none⟩) n n) ∧ Blk w' w.heap.size 5 (bv l).toArray ∧ Fr [] w w' := by
  subst hn
  exact wdone w B p v l h hl

theorem same_eq (w : World) (A A' : Option Addr) (n n' c c' : Nat) (l : List UInt8) (hn : l.length = n) (hn' : l.length = n') (h : Rd w A l) (h' : Rd w A' l) :
    Calls Try.prog 12 #[.slice A n c, .slice A' n' c'] w fun e w' => e = .returned (.bool true) ∧ w = w' :=
  (same_any w A A' n n' c c' l l hn hn' h h').mono fun e w' ⟨he, hw⟩ => ⟨by rw [he]; simp, hw⟩

theorem read_all (w : World) (p g : Nat) (m : List UInt8) (n : Nat) (hn : m.length = n) (h : Rdr w p g m 0) (hl : n ≤ 1000000000) :
    Calls Try.prog 10 #[.pointer (some ⟨p, 0, none⟩), .int .i64 (n : Int)] w fun e w' => ∃ A c, e = .returned (.tuple #[.slice A n c, .int .i64 0]) ∧ Rd w' A m ∧ Fr [p] w w' := by
  subst hn
  refine (rbytesU w p g 0 m _ h hl (by omega)).mono ?_
  rintro e w' ⟨A, c, rfl, h1, _, _, _, h5⟩
  have e1 : eB m 0 (m.length : Int) = 0 := by simp [eB]
  have e2 : oB 0 m 0 (m.length : Int) = m := by simp [oB]
  rw [e1, e2] at h1
  exact ⟨A, c, by rw [e1, e2], h1, h5⟩

/-- While the bytes of the slice v are written over: nothing else turns; v stays the call's own. -/
def Filling (B : Nat) (wS : World) (v : Value) (wr : World) : Prop := Fr v.ownBlock.toList wS wr ∧ ∃ l', Own wr B v l'

theorem Filling.step {B n cap k : Nat} {wS wr : World} {A : Option Addr} (h : Filling B wS (.slice A n cap) wr) (hk : k < n) (x : UInt8) :
    ∃ g u, A = some ⟨g, 0, none⟩ ∧ wr.cell? ⟨g, k, none⟩ = some u ∧ wr.frozen? ⟨g, k, none⟩ = false ∧ Hid (Filling B wS (.slice A n cap) (wr.setCell ⟨g, k, none⟩ (.int .u8 (x.toNat : Int)))) := by
  obtain ⟨hf, l', ho⟩ := h
  obtain ⟨g, rfl, _, h1, h2, h3⟩ := ho.head (by omega)
  obtain ⟨u, hu⟩ := h1 k hk
  exact ⟨g, u, rfl, hu, h2 k, hf.setCell (by simp [Value.ownBlock]) _, _, h3 k x⟩

set_option maxRecDepth 100000 in
set_option maxHeartbeats 2000000 in
theorem own_walk (a0 : Option Addr) (cap0 : Nat) (l : List UInt8) (x : UInt8) (w : World) (hr : Rd w a0 l) (hc : a0 = none → cap0 = 0) (hlc : l.length ≤ cap0) (_hcm : cap0 ≤ maxLen) :
    Calls Try.prog 7 #[.slice a0 l.length cap0, .int .u8 (x.toNat : Int)] w fun e w' => e = .returned (.bool true) ∧ Below w.heap.size w w' := by
  obtain ⟨i0, hi, hz0, hz1, hz2⟩ := info_parts info5
  have HR := Lib.hid hr
  have HC := Lib.hid hc
  have HL := Lib.hid (take_len l 100 (by omega))
  have hcnt : (min (l.length : Int) 100).toNat ≤ 100 := by omega
  unfold maxLen at _hcm
  clear hr hc
  go_enter Try.func7, Try.ntmps7
  go_wp2_with (first
    | (go_at_call 8; refine (shown_any _).mono ?_; rintro e w1 ⟨rfl, hf1⟩; have HF1 := Lib.hid hf1; have hs1 := hf1.size; clear hf1)
    | (at_builtin; refine wpList_app _ rfl (.tmp 15) (.tmp 20) 22 rfl w.heap.size i0 Try.underlying22 hi hz0 hz1 hz2 _ [] rfl (Own.empty w1 _ hs1) a0 _ cap0 (l.take (min (l.length : Int) 100).toNat) rfl HL.out (rd_take (HR.out.later (HF1.out.alloc _) (by simp)) _) HC.out (by simp; omega) (by simp; omega) ?_))
  intro A1 c1 w2 ho2 hf2 _
  have HF2 : Hid (Fr [] w w2) := (HF1.out.alloc _).trans hf2 (by simp [Value.ownBlock]; omega)
  have HM : Hid ((l.take (min (l.length : Int) 100).toNat).length = (min (l.length : Int) 100).toNat) := HL.out
  have HO2 := Lib.hid ho2
  clear ho2 hf2 HL HR HC hlc
  generalize (min (l.length : Int) 100).toNat = n at *
  generalize l.take n = m at *
  have h2r := HO2.out.slice
  rw [HM.out] at h2r
  have HR2 : Hid (Rd w2 A1 m) := by obtain ⟨_, _, hv, hr, _⟩ := h2r; cases hv; exact hr
  have HC2 : Hid (A1 = none → c1 = 0) := by obtain ⟨_, _, hv, _, _, _, _, hc⟩ := h2r; cases hv; exact hc
  have hs2 := HF2.out.size
  clear h2r hs1
  go_wp2_with (at_builtin; refine wpList_app _ rfl (.tmp 22) (.tmp 23) 22 rfl w2.heap.size i0 Try.underlying22 hi hz0 hz1 hz2 _ [] rfl (Own.empty w2 _ (Nat.le_refl _)) A1 n c1 m rfl HM.out (HR2.out.later ((Fr.refl [] _).alloc _) (by simp)) HC2.out (by simp; omega) (by simp) ?_)
  intro A3 c3 w3 ho3 hf3 _
  have HF3 : Hid (Fr [] w2 w3) := ((Fr.refl [] w2).alloc _).trans hf3 (by simp [Value.ownBlock])
  have HO3 := Lib.hid ho3
  clear ho3 hf3
  go_wp2_with fail
  refine (newReader_any A1 n c1 m _ HM.out (HR2.out.later HF3.out (by simp)) (by omega)).mono ?_
  rintro e w4 ⟨q, rfl, hq, hq3, hf4⟩
  have HQ := Lib.hid hq
  have HF4 := Lib.hid hf4
  have hs3 := HF3.out.size
  have hs4 := hf4.size
  clear hq hf4
  go_wp2_with fail
  refine (xbytes A1 n c1 m (WrX.start w4 w4.heap.size) (Nat.le_refl _) (by simp; omega) HM.out ((HR2.out.later HF3.out (by simp)).later (HF4.out.alloc _) (by simp)) HC2.out).mono ?_
  rintro e w6 ⟨rfl, hw6⟩
  obtain ⟨v, hw, hf6, _, hv⟩ := hw6
  rw [List.nil_append] at hw
  have HW := Lib.hid hw
  have HV := Lib.hid hv
  have HF6 := Lib.hid hf6
  have hs6 := hf6.size
  have HF26 : Hid (Fr [] w2 w6) := (HF3.out.tr HF4.out).tr hf6
  have HS : Hid (∀ k ∈ (Value.slice A1 n c1).ownBlock.toList, w.heap.size ≤ k ∧ k < w2.heap.size) := fun k hk => HO2.out.lt k (by simpa using hk)
  clear hw hv hf6
  go_wp2
  go_loopw [9] (fun i wr => ∃ k : Nat, k ≤ n ∧ i = .int .i64 k ∧ Filling w.heap.size w6 (.slice A1 n c1) wr) (fun i _ => n - (intOf i).toNat)
  case atStart => exact ⟨0, Nat.zero_le _, rfl, Fr.refl _ _, m, HO2.out.fr HF26.out (by simp)⟩
  case round =>
    obtain ⟨k, hk, rfl, hfill⟩ := hrel
    have HFI := Lib.hid hfill
    clear hfill
    by_cases hlt : k < n
    · obtain ⟨g, u, rfl, hu, hfz, HNX⟩ := HFI.out.step hlt x
      go_wp2
      go_roundw
      case rel => exact ⟨k + 1, by omega, by go_num, HNX.out⟩
      case measure => simp [intOf]; omega
    · have HFr : Hid (Fr (Value.slice A1 n c1).ownBlock.toList w6 wr) := HFI.out.1
      have HWr : Hid (Wr wr w4.heap.size w4.heap.size v m) := HW.out.fr HFr.out (fun h => by have := HS.out _ h; omega) (fun k hk h => by have := HS.out _ h; have := HV.out k hk; omega)
      have HQr : Hid (Rdr wr q w3.heap.size m 0) := (HQ.out.fr HF6.out (by simp) (by simp)).fr HFr.out (fun h => by have := HS.out _ h; omega) (fun h => by have := HS.out _ h; omega)
      have HOr : Hid (Own wr w2.heap.size (.slice A3 n c3) m) := (HO3.out.fr (HF4.out.tr HF6.out) (by simp)).fr HFr.out (fun k hk h => by have := HS.out _ h; have := HO3.out.lt k hk; omega)
      have HFw : Hid (Fr [] w wr) := (HF2.out.tr HF26.out).trans HFr.out (fun k hk => .inr (HS.out k hk).1)
      clear HFI HFr HS HF26 HF6 HV HW HF4 HQ HO3 HF3 HR2 HC2 HO2 HF2 HF1
      go_wp2_with fail
      refine (wdoneN wr _ _ v m n HM.out HWr.out (by omega)).mono ?_
      rintro e w7 ⟨rfl, hb7, hf7⟩
      have HO7 : Hid (Own w7 wr.heap.size (.slice (some ⟨wr.heap.size, 0, none⟩) n n) m) := by
        have := Own.of_blk (B := wr.heap.size) hb7 (Nat.le_refl _) (by rw [HM.out]; unfold maxLen; omega)
        rw [HM.out] at this
        exact this
      have HF7 := Lib.hid hf7
      clear hb7 hf7
      go_wp2
      go_loopw [11] (fun i wr2 => ∃ k : Nat, k ≤ n ∧ i = .int .i64 k ∧ Filling wr.heap.size w7 (.slice (some ⟨wr.heap.size, 0, none⟩) n n) wr2) (fun i _ => n - (intOf i).toNat)
      case atStart => exact ⟨0, Nat.zero_le _, rfl, Fr.refl _ _, m, HO7.out⟩
      case round =>
        obtain ⟨k2, hk2, rfl, hfill⟩ := hrel
        have HFI := Lib.hid hfill
        clear hfill
        by_cases hlt2 : k2 < n
        · obtain ⟨g, u, hg, hu, hfz, HNX⟩ := HFI.out.step hlt2 x
          cases hg
          go_wp2
          go_roundw
          case rel => exact ⟨k2 + 1, by omega, by go_num, HNX.out⟩
          case measure => simp [intOf]; omega
        · have HF8 := Lib.hid HFI.out.1
          have HW8 := Lib.hid ((HWr.out.fr HF7.out (by simp) (by simp)).fr HF8.out (by have := HWr.out.1.lt; simp [Value.ownBlock]; omega) (fun k hk => by have := HWr.out.2.lt k hk; simp [Value.ownBlock]; omega))
          have HQ8 := Lib.hid ((HQr.out.fr HF7.out (by simp) (by simp)).fr HF8.out (by have := HQr.out.1.lt; simp [Value.ownBlock]; omega) (by have := HQr.out.2.lt; simp [Value.ownBlock]; omega))
          have HO8 := Lib.hid ((HOr.out.fr HF7.out (by simp)).fr HF8.out (fun k hk => by have := HOr.out.lt k hk; simp [Value.ownBlock]; omega))
          have HFw8 : Hid (Fr [] w wr) := (HFw.out.tr HF7.out).trans HF8.out (by have := HFw.out.size; simp [Value.ownBlock]; omega)
          have hq0 : w.heap.size ≤ q := by omega
          clear HFI HF8 HWr HQr HOr HFw HF7 HO7
          go_wp2_with fail
          refine (read_all wr q _ m n HM.out HQ8.out (by omega)).mono ?_
          rintro e w9 ⟨A, c, rfl, hr9, hf9⟩
          have HR9 := Lib.hid hr9
          have HW9 := Lib.hid (HW8.out.fr hf9 (by have := HW8.out.1.other HQ8.out.1 (by decide); simpa using this) (fun k hk h => by simp at h; subst h; exact HW8.out.2.other HQ8.out.1 (by decide) hk))
          have HO9 := Lib.hid (HO8.out.fr hf9 (fun k hk h => by simp at h; subst h; exact HO8.out.other HQ8.out.1 (by decide) hk))
          have HFw9 : Hid (Fr [] w w9) := HFw8.out.trans hf9 (by simpa using hq0)
          have HR3 := Lib.hid HO9.out.rd
          clear hr9 hf9 HW8 HQ8 HO8 HFw8
          go_wp2_with fail
          refine (same_eq w9 A _ n n c _ m HM.out HM.out HR9.out HR3.out).mono ?_
          rintro e w10 ⟨rfl, rfl⟩
          go_wp2_with fail
          refine (wdoneN w9 _ _ v m n HM.out HW9.out (by omega)).mono ?_
          rintro e w10 ⟨rfl, hb10, hf10⟩
          have HR10 := Lib.hid (rd_blk hb10)
          have HF10 := Lib.hid hf10
          clear hb10 hf10
          go_wp2_with fail
          refine (same_eq w10 _ _ n n _ _ m HM.out HM.out HR10.out (HR3.out.later HF10.out (by simp))).mono ?_
          rintro e w11 ⟨rfl, rfl⟩
          go_wp2
          go_ret
          exact ⟨rfl, (HFw9.out.tr HF10.out).below (by simp) (Nat.le_refl _)⟩

end Go.Proofs.Ytgmngkhjjimelaa
