/-
  Contracts of octet's order.appended, (*Writer).number, Big, Little. Conditions: lengths up to 1000000000.
  Contracts of octet's (*Writer).number, Big, Little. Conditions: lengths up to 1000000000.
  The contracts of octet's writers once more, with plain numbers as arguments.
-/
import Derived.Test.YtokfcknfkhlmfaaOctWrite1
import Derived.Test.YtokfcknfkhlmfaaOctNum1
import Derived.Deep.RegionWith
namespace Go.Proofs.Ytokfcknfkhlmfaa
open Go.RowKit


set_option maxHeartbeats 1000000 in
theorem appended34 (w : World) (B : Nat) (v : Value) (l : List UInt8) (u n : Nat) (h : Own w B v l) (hB : B ≤ w.heap.size) (hl : l.length ≤ 1000000000) (hn : n ≤ 8) :
    Calls Try.prog 75 #[ordV 76, v, .int .u64 (u : Int), .int .i64 (n : Int)] w fun e w' => ∃ v', e = .returned v' ∧ Own w' B v' (l ++ putL u n) ∧ Fr v.ownBlock.toList w w' ∧ Lies w v v' := by
  obtain ⟨i0, hi, hz0, hz1, hz2⟩ := info_parts info5
  have HO := Lib.hid h
  clear h
  unfold ordV
  go_enter Try.func75, Try.ntmps75
  go_wp2
  go_loopw [1, 11] (fun x i wr => ∃ k : Nat, k ≤ n ∧ i = .int .i64 k ∧ Own wr B x (l ++ (putL u n).take k) ∧ Fr v.ownBlock.toList w wr ∧ Lies w v x ∧ Blk wr w.heap.size 112 #[.func (.func 76) #[] #[]]) (fun _ i _ => n - (intOf i).toNat)
  case atStart => exact ⟨0, Nat.zero_le _, rfl, by simpa using HO.out.fr ((Fr.refl [] w).alloc _) (by simp), (Fr.refl _ w).alloc _, Lies.refl _ _, Blk.fresh _ _ _⟩
  case round =>
    obtain ⟨k, hk, rfl, ho, hf, ha, hbk⟩ := hrel
    obtain ⟨m, hm⟩ : ∃ m, m = l ++ (putL u n).take k := ⟨_, rfl⟩
    rw [← hm] at ho
    have HO1 := Lib.hid ho
    have HF := Lib.hid hf
    have HA := Lib.hid ha
    have HK := Lib.hid hbk
    have HM := Lib.hid hm
    have hcf := hbk.cell 0
    simp at hcf
    have hml : m.length ≤ 1000000008 := by rw [hm]; simp [putL_length]; omega
    have hBr : B ≤ wr.heap.size := Nat.le_trans hB hf.size
    clear ho hf ha hbk hm
    by_cases hlt : k < n
    · have HG := Lib.hid (putL_get u n k hlt)
      have HE := Lib.hid (byte_at u k)
      generalize UInt8.ofNat (u / 256 ^ k % 256) = x at *
      go_wp2_with (first
        | (go_at_call 76; refine (rank34 k n _).mono ?_; rintro e w1 ⟨rfl, rfl⟩)
        | (at_builtin; refine wpList_app _ rfl (.tmp 14) (.tmp 24) 22 rfl B i0 Try.underlying22 hi hz0 hz1 hz2 u1 m rfl (HO1.out.fr ((Fr.refl [] _).alloc _) (by simp)) _ 1 1 [x] rfl rfl (rd_one' _ _ x HE.out) (by simp) (by omega) (by simp; omega) ?_; intro A' cap' w2 hown' hf2 hat; have HO2 := Lib.hid hown'; have HF2 := Lib.hid hf2; have HA2 := Lib.hid hat; clear hown' hf2 hat))
      go_roundw
      case rel =>
        have h1 := ((Fr.refl _ _).alloc (.cells #[.int .u8 ((u : Int) / 2 ^ (8 * k) % 256)] 5)).tr HF2.out
        refine ⟨k + 1, by omega, by go_num, ?_, ?_, ?_, ?_⟩
        · rw [put_snoc l _ k x HG.out, ← HM.out]; exact HO2.out
        · refine HF.out.trans h1 fun i hi => ?_
          rcases HA.out with h | ⟨b, hb, hle⟩
          · exact .inl (by rw [← h]; exact hi)
          · rw [hb] at hi; simp at hi; subst hi; exact .inr hle
        · refine HA.out.trans HA2.out ?_
          have := HF.out.size
          simp; omega
        · refine HK.out.fr h1 ?_
          have := HO1.out.other HK.out (by decide)
          simpa using this
      case measure => simp [intOf]; omega
    · go_wp2
      go_ret
      have e : k = n := by omega
      have HM' := HM.out
      rw [e, List.take_of_length_le (by rw [putL_length]; exact Nat.le_refl n)] at HM'
      exact ⟨_, rfl, by rw [← HM']; exact HO1.out, HF.out, HA.out⟩

end Go.Proofs.Ytokfcknfkhlmfaa

namespace Go.Proofs.Ytokfcknfkhlmfaa
open Go.RowKit

/-- How many bytes of a number are written. -/
def cnt (n : Int) : Nat := (min (max n 0) 8).toNat
theorem cnt_le (n : Int) : cnt n ≤ 8 := by unfold cnt; omega
theorem cnt_spell (n : Int) : min (max n 0) 8 = (cnt n : Int) := by unfold cnt; omega




theorem app34 (w : World) (B : Nat) (v : Value) (l : List UInt8) (u : Nat) (z : Int) (n : Nat) (hz : z = (n : Int)) (h : Own w B v l) (hB : B ≤ w.heap.size) (hl : l.length ≤ 1000000000) (hn : n ≤ 8) :
    Calls Try.prog 75 #[.agg #[.func (.func 76) #[] #[]], v, .int .u64 (u : Int), .int .i64 z] w fun e w' => ∃ v', e = .returned v' ∧ Own w' B v' (l ++ putL u n) ∧ Fr v.ownBlock.toList w w' ∧ Lies w v v' := by
  subst hz
  exact appended34 w B v l u n h hB hl hn

set_option maxHeartbeats 1000000 in
theorem wnum34 (w : World) (B p : Nat) (v : Value) (l : List UInt8) (u : Nat) (n : Int) (h : Wr w B p v l) (hB : B ≤ w.heap.size) (hl : l.length ≤ 1000000000) :
    Calls Try.prog 63 #[.pointer (some ⟨p, 0, none⟩), .int .u64 (u : Int), .int .i64 n, ordV 76] w (Wrote w B p v (l ++ putL u (cnt n))) := by
  have HW := Lib.hid h
  have h0 := h.1.cell 0
  simp at h0
  have hlt := h.1.lt
  obtain ⟨A, cap, rfl, -⟩ := h.2.slice
  clear h
  unfold ordV
  have HF0 := Lib.hid (((Fr.refl [] w).alloc (.cells #[.func (.func 76) #[] #[]] 112)).drew)
  go_enter Try.func63, Try.ntmps63
  go_wp2
  go_region_with ((go_at_call 75; refine (app34 _ B (.slice A l.length cap) l u _ (cnt n) (cnt_spell n) (HW.out.2.fr HF0.out (by simp)) (Nat.le_trans hB HF0.out.size) hl (cnt_le n)).mono ?_; rintro e w1 ⟨v', rfl, ho, hf, ha⟩; obtain ⟨m, hm⟩ : ∃ m, m = l ++ putL u (cnt n) := ⟨_, rfl⟩; rw [← hm] at ho; have HM := Lib.hid hm; have HO := Lib.hid ho; obtain ⟨A', cap', rfl, -⟩ := ho.slice; have HF := Lib.hid (HF0.out.nil.tr hf); have HA : Hid (Lies w (.slice A l.length cap) (.slice A' m.length cap')) := (Lies.refl w _).trans ha HF0.out.size; clear ho hf ha hm; have hbk := HW.out.1.fr HF.out (by have := HW.out.ne; simpa using this); have h1 := hbk.cell 0; simp at h1; have h2 := hbk.frozen 0; clear hbk))
  all_goals
    go_wp2
    go_ret
    exact ⟨rfl, HM.out ▸ wrote_of HW.out HF.out HO.out HA.out rfl⟩

set_option maxHeartbeats 400000 in
theorem wlittle (w : World) (B p : Nat) (v : Value) (l : List UInt8) (u : Nat) (n : Int) (h : Wr w B p v l) (hB : B ≤ w.heap.size) (hl : l.length ≤ 1000000000) :
    Calls Try.prog 37 #[.pointer (some ⟨p, 0, none⟩), .int .u64 (u : Int), .int .i64 n] w (Wrote w B p v (l ++ putL u (cnt n))) := by
  have HW := Lib.hid h
  clear h
  go_enter Try.func37, Try.ntmps37
  go_wp2_with (first
    | (go_at_call 64; refine (lowest_any _).mono ?_; rintro e w1 ⟨rfl, hf⟩; have HF := Lib.hid hf; clear hf)
    | (go_at_call 63; refine (wnum34 _ B p v l u n (HW.out.fr HF.out (by simp) (by simp)) (Nat.le_trans hB HF.out.size) hl).mono ?_; rintro e w2 ⟨rfl, hx⟩; have HX := Lib.hid hx; clear hx))
  go_ret
  obtain ⟨v', h1, h2, h3⟩ := HX.out
  exact ⟨rfl, v', h1, HF.out.nil.tr h2, (Lies.refl w _).trans h3 HF.out.size⟩

end Go.Proofs.Ytokfcknfkhlmfaa

namespace Go.Proofs.Ytokfcknfkhlmfaa
open Go.RowKit

theorem wbyteZ (w : World) (B p : Nat) (v : Value) (l : List UInt8) (z : Int) (x : UInt8) (hz : z = (x.toNat : Int)) (h : Wr w B p v l) (hB : B ≤ w.heap.size) (hl : l.length ≤ 1000000000) :
    Calls Try.prog 32 #[.pointer (some ⟨p, 0, none⟩), .int .u8 z] w (Wrote w B p v (l ++ [x])) := by subst hz; exact wbyte w B p v l x h hB hl


theorem wlittleZ (w : World) (B p : Nat) (v : Value) (l : List UInt8) (z : Int) (u : Nat) (n : Int) (hz : z = (u : Int)) (h : Wr w B p v l) (hB : B ≤ w.heap.size) (hl : l.length ≤ 1000000000) :
    Calls Try.prog 37 #[.pointer (some ⟨p, 0, none⟩), .int .u64 z, .int .i64 n] w (Wrote w B p v (l ++ putL u (cnt n))) := by subst hz; exact wlittle w B p v l u n h hB hl

end Go.Proofs.Ytokfcknfkhlmfaa
