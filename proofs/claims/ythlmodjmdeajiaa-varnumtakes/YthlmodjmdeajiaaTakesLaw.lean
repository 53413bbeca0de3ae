/-
  picklocklaw03.VarnumTakes returns true for every input: what is taken is what the document says. No condition.
-/
import Derived.Test.YthlmodjmdeajiaaShown
import Derived.Test.YthlmodjmdeajiaaRef2
namespace Go.Proofs.Ythlmodjmdeajiaa
open Go.RowKit
namespace Var

theorem atQ (w : World) (p g k : Nat) (l : List UInt8) (h : Rdr w p g l k) :
    Calls Try.prog 12 #[.pointer (some ⟨p, 0, none⟩)] w fun e w' => e = .returned (.int .i64 (k : Int)) ∧ w' = w := (at_any w p g k l h).mono fun _ _ ⟨h1, h2⟩ => ⟨h1, h2.symm⟩

/-- Both readers, at the same place. -/
def Two (w0 : World) (p g q : Nat) (A : Option Addr) (c : Nat) (m : List UInt8) (k : Nat) (w : World) : Prop :=
  Rdr w p g m k ∧ RRd w q A c m k ∧ k ≤ m.length ∧ Fr [p, q] w0 w
theorem Two.drewN {w0 w : World} {p g q c k : Nat} {A : Option Addr} {m : List UInt8} (h : Two w0 p g q A c m k w) (n : Nat) : Two w0 p g q A c m k (w.drewN n) :=
  ⟨h.1.fr ((Fr.refl [] _).drewN n) (by simp) (by simp), h.2.1.fr ((Fr.refl [] _).drewN n) (by simp) (by simp), h.2.2.1, h.2.2.2.drewN n⟩

set_option maxRecDepth 100000 in
set_option maxHeartbeats 2000000 in
theorem takes_walk (a0 : Option Addr) (cap0 : Nat) (l : List UInt8) (t : Int) (w : World) (hr : Rd w a0 l) (hc : a0 = none → cap0 = 0) (hlc : l.length ≤ cap0) (_hcm : cap0 ≤ maxLen) :
    Calls Try.prog 3 #[.slice a0 l.length cap0, .int .i64 t] w fun e w' => e = .returned (.bool true) ∧ Below w.heap.size w w' := by
  obtain ⟨i0, hi, hz0, hz1, hz2⟩ := info_parts info5
  have HR := Lib.hid hr
  have HC := Lib.hid hc
  have HL := Lib.hid (take_len l 40 (by omega))
  have hcnt : (min (l.length : Int) 40).toNat ≤ 40 := by omega
  obtain ⟨N, hN, hN10⟩ := place_of t 10 (by omega)
  have hN' : (bits .and .i64 t 65535).tmod 11 = (N : Int) := hN
  clear hN
  unfold maxLen at _hcm
  clear hr hc
  go_enter Try.func3, Try.ntmps3
  go_wp2_with (first
    | (go_at_call 8; refine (shown_any _).mono ?_; rintro e w1 ⟨rfl, hf1⟩; have HF1 := Lib.hid hf1; have hs1 := hf1.size; clear hf1)
    | (at_builtin; refine wpList_app _ rfl (.tmp 14) (.tmp 19) 22 rfl w.heap.size i0 Try.underlying22 hi hz0 hz1 hz2 (.slice (some ⟨w1.heap.size, 0, none⟩) 0 0) [] rfl (Own.empty w1 _ hs1) a0 _ cap0 (l.take (min (l.length : Int) 40).toNat) rfl HL.out (rd_take (HR.out.later (HF1.out.alloc _) (by simp)) _) HC.out (by simp; omega) (by simp; omega) ?_))
  intro A1 c1 w2 ho2 hf2 hlies
  have HF2 : Hid (Fr [] w w2) := (HF1.out.alloc _).trans hf2 (by simp [Value.ownBlock]; omega)
  have HM : Hid ((l.take (min (l.length : Int) 40).toNat).length = (min (l.length : Int) 40).toNat) := HL.out
  have HO2 := Lib.hid ho2
  have hs2 := HF2.out.size
  clear ho2 hf2 HL HR HC hlc hs1 hlies
  generalize (min (l.length : Int) 40).toNat = n at *
  generalize l.take n = m at *
  have hA : ∀ ad, A1 = some ad → ad.block < w2.heap.size := by
    intro ad e
    rcases HO2.out.form0 with ⟨h, _⟩ | ⟨g1, h⟩
    · rw [h] at e; cases e
    · rw [h] at e; cases e; exact (HO2.out.lt g1 (by rw [h]; rfl)).2
  have HA := Lib.hid hA
  have HR2 := Lib.hid HO2.out.rd
  clear hA
  go_wp2_with fail
  refine (newReader_any A1 n c1 m _ HM.out HR2.out (by omega)).mono ?_
  rintro e w3 ⟨p, rfl, h3, hp3, hf3⟩
  have H3 := Lib.hid h3
  have HF3 := Lib.hid hf3
  have hs3 := hf3.size
  have hlt3 := h3.1.lt
  clear h3 hf3
  go_wp2_with fail
  have HT0 : Hid (Two (w3.alloc (.cells #[.slice A1 n c1, .int .i64 0] 28)) p w2.heap.size w3.heap.size A1 c1 m 0 (w3.alloc (.cells #[.slice A1 n c1, .int .i64 0] 28))) := by
    refine ⟨H3.out.fr ((Fr.refl [] _).alloc _) (by simp) (by simp), ⟨?_, (HR2.out.fr HF3.out (by simp)).fr ((Fr.refl [] _).alloc _) (by simp), ?_⟩, Nat.zero_le _, Fr.refl _ _⟩
    · have := Blk.fresh w3 28 #[.slice A1 n c1, .int .i64 0]
      rw [HM.out]
      exact this
    · intro ad e
      have := HA.out ad e
      omega
  have HFW : Hid (Fr [] w (w3.alloc (.cells #[.slice A1 n c1, .int .i64 0] 28))) := (HF2.out.tr HF3.out).alloc _
  have hpq : p ≠ w3.heap.size := by omega
  have hgq : w2.heap.size ≠ w3.heap.size := by omega
  have hwp : w.heap.size ≤ p := by omega
  have hwq : w.heap.size ≤ w3.heap.size := by omega
  have HAp : Hid (∀ ad, A1 = some ad → ad.block ∉ [p]) := by
    intro ad e
    have := HA.out ad e
    simp
    omega
  clear H3 HF3 HF2 HF1 HO2 HR2 HA hs2 hs3 hlt3 hp3
  generalize w3.alloc (.cells #[.slice A1 n c1, .int .i64 0] 28) = w4 at *
  generalize w3.heap.size = q at *
  generalize w2.heap.size = g at *
  go_loopw [8] (fun i wr => ∃ j k : Nat, j ≤ 10 ∧ i = .int .i64 (j : Int) ∧ Two w4 p g q A1 c1 m k wr) (fun i _ => 11 - (intOf i).toNat)
  case atStart => exact ⟨0, 0, by omega, rfl, HT0.out⟩
  case round =>
    obtain ⟨j, k, hj, rfl, hb⟩ := hrel
    have HB := Lib.hid hb
    clear hb
    by_cases hlt : j < N
    · have hlt' : (j : Int) < (N : Int) := by omega
      obtain ⟨⟨a, b, c⟩, hT⟩ : ∃ T, takeV (m.drop k) = T := ⟨_, rfl⟩
      have HT := Lib.hid hT
      obtain ⟨k', hk'⟩ : ∃ k', k + b = k' := ⟨_, rfl⟩
      have hle : k' ≤ m.length := by
        have h1 := takeV_le (m.drop k)
        have h2 := HB.out.2.2.1
        rw [hT, List.length_drop] at h1
        show k' ≤ m.length
        simp only at h1
        omega
      have HK := Lib.hid hk'
      have HLE := Lib.hid hle
      clear hT hk' hle
      go_wp2_with fail
      refine (take_any wr p g k m HB.out.1 HB.out.2.2.1 (by rw [HM.out]; omega) (a, b, c) HT.out).mono ?_
      rintro e w5 ⟨rfl, h5, hf5⟩
      have H5 : Hid (Rdr w5 p g m k') := by
        rw [← HK.out]
        exact h5
      have HX5 := Lib.hid (HB.out.2.1.fr hf5 (by simp; omega) HAp.out)
      have HF5 := Lib.hid hf5
      clear h5 hf5
      go_wp2_with fail
      refine (refTake_any w5 q k c1 A1 m HX5.out HB.out.2.2.1 (by rw [HM.out]; omega) (a, b, c) HT.out).mono ?_
      rintro e w6 ⟨rfl, h6, hf6⟩
      have h6' : RRd w6 q A1 c1 m k' := by
        rw [← HK.out]
        exact h6
      have H6 : Hid (Two w4 p g q A1 c1 m k' w6) := ⟨H5.out.fr hf6 (by simp; omega) (by simp; omega), h6', HLE.out, (HB.out.2.2.2.tr (HF5.out.sub (by simp))).tr (hf6.sub (by simp))⟩
      have h2 := h6'.1.cell 1
      simp at h2
      clear h6 hf6 h6'
      have hne : ((k' : Int) != (k' : Int)) = false := by simp
      go_wp2_with fail
      go_quiet (first | (go_at_call 12; exact Calls.quiet_of_same (atQ _ p g k' m (H6.out.drewN _).1)))
      go_wp2
      go_roundw
      case rel => exact ⟨j + 1, k', by omega, by go_num, H6.out.drewN _⟩
      case measure => simp [intOf]; omega
    · have hlt' : ¬ (j : Int) < (N : Int) := by omega
      go_wp2
      go_ret
      exact ⟨rfl, (HFW.out.trans HB.out.2.2.2 (by simp; omega)).below (by simp) (Nat.le_refl _)⟩

end Var
end Go.Proofs.Ythlmodjmdeajiaa
