/-
  Contracts of octet's (*Writer).number, Big, Little. Conditions: lengths up to 1000000000.
-/
import Derived.Test.YthabiaenaicppaaOctWrite2
import Derived.Deep.RegionWith
namespace Go.Proofs.Ythabiaenaicppaa
open Go.RowKit

/-- How many bytes of a number are written. -/
def cnt (n : Int) : Nat := (min (max n 0) 8).toNat
theorem cnt_le (n : Int) : cnt n ≤ 8 := by unfold cnt; omega
theorem cnt_spell (n : Int) : min (max n 0) 8 = (cnt n : Int) := by unfold cnt; omega

theorem app33 (w : World) (B : Nat) (v : Value) (l : List UInt8) (u : Nat) (z : Int) (n : Nat) (hz : z = (n : Int)) (h : Own w B v l) (hB : B ≤ w.heap.size) (hl : l.length ≤ 1000000000) (hn : n ≤ 8) :
    Calls Try.prog 53 #[.agg #[.func (.func 54) #[] #[]], v, .int .u64 (u : Int), .int .i64 z] w fun e w' => ∃ v', e = .returned v' ∧ Own w' B v' (l ++ putB u n) ∧ Fr v.ownBlock.toList w w' ∧ Lies w v v' := by
  subst hz
  exact appended33 w B v l u n h hB hl hn

set_option maxHeartbeats 1000000 in
theorem wnum33 (w : World) (B p : Nat) (v : Value) (l : List UInt8) (u : Nat) (n : Int) (h : Wr w B p v l) (hB : B ≤ w.heap.size) (hl : l.length ≤ 1000000000) :
    Calls Try.prog 46 #[.pointer (some ⟨p, 0, none⟩), .int .u64 (u : Int), .int .i64 n, ordV 54] w (Wrote w B p v (l ++ putB u (cnt n))) := by
  have HW := Lib.hid h
  have h0 := h.1.cell 0
  simp at h0
  have hlt := h.1.lt
  obtain ⟨A, cap, rfl, -⟩ := h.2.slice
  clear h
  unfold ordV
  have HF0 := Lib.hid (((Fr.refl [] w).alloc (.cells #[.func (.func 54) #[] #[]] 75)).drew)
  go_enter Try.func46, Try.ntmps46
  go_wp2
  go_region_with ((go_at_call 53; refine (app33 _ B (.slice A l.length cap) l u _ (cnt n) (cnt_spell n) (HW.out.2.fr HF0.out (by simp)) (Nat.le_trans hB HF0.out.size) hl (cnt_le n)).mono ?_; rintro e w1 ⟨v', rfl, ho, hf, ha⟩; obtain ⟨m, hm⟩ : ∃ m, m = l ++ putB u (cnt n) := ⟨_, rfl⟩; rw [← hm] at ho; have HM := Lib.hid hm; have HO := Lib.hid ho; obtain ⟨A', cap', rfl, -⟩ := ho.slice; have HF := Lib.hid (HF0.out.nil.tr hf); have HA : Hid (Lies w (.slice A l.length cap) (.slice A' m.length cap')) := (Lies.refl w _).trans ha HF0.out.size; clear ho hf ha hm; have hbk := HW.out.1.fr HF.out (by have := HW.out.ne; simpa using this); have h1 := hbk.cell 0; simp at h1; have h2 := hbk.frozen 0; clear hbk))
  all_goals
    go_wp2
    go_ret
    exact ⟨rfl, HM.out ▸ wrote_of HW.out HF.out HO.out HA.out rfl⟩

set_option maxHeartbeats 400000 in
theorem wbig (w : World) (B p : Nat) (v : Value) (l : List UInt8) (u : Nat) (n : Int) (h : Wr w B p v l) (hB : B ≤ w.heap.size) (hl : l.length ≤ 1000000000) :
    Calls Try.prog 23 #[.pointer (some ⟨p, 0, none⟩), .int .u64 (u : Int), .int .i64 n] w (Wrote w B p v (l ++ putB u (cnt n))) := by
  have HW := Lib.hid h
  clear h
  go_enter Try.func23, Try.ntmps23
  go_wp2_with (first
    | (go_at_call 47; refine (highest_any _).mono ?_; rintro e w1 ⟨rfl, hf⟩; have HF := Lib.hid hf; clear hf)
    | (go_at_call 46; refine (wnum33 _ B p v l u n (HW.out.fr HF.out (by simp) (by simp)) (Nat.le_trans hB HF.out.size) hl).mono ?_; rintro e w2 ⟨rfl, hx⟩; have HX := Lib.hid hx; clear hx))
  go_ret
  obtain ⟨v', h1, h2, h3⟩ := HX.out
  exact ⟨rfl, v', h1, HF.out.nil.tr h2, (Lies.refl w _).trans h3 HF.out.size⟩


end Go.Proofs.Ythabiaenaicppaa
