/-
  Contracts of octet's take, (*Reader).Bytes, (*Reader).Byte. Conditions: lengths up to 1000000000.
-/
import Derived.Test.YthabiaenaicppaaOctRead1
namespace Go.Proofs.Ythabiaenaicppaa
open Go.RowKit

set_option maxHeartbeats 400000 in
theorem take_neg (w : World) (p : Nat) (n : Int) (hn : n < 0) :
    Calls Try.prog 50 #[.pointer (some ⟨p, 0, none⟩), .int .i64 n] w fun e w' => e = .returned (.tuple #[.slice none 0 0, .int .i64 1]) ∧ w = w' := by
  go_enter Try.func50, Try.ntmps50
  go_wp2
  go_ret2
  exact ⟨rfl, rfl⟩

set_option maxHeartbeats 400000 in
theorem take_short (w : World) (p g k : Nat) (l : List UInt8) (n : Int) (h : Rdr w p g l k) (hk : k ≤ l.length) (hl : l.length ≤ 1000000000) (hn : (l.length : Int) - k < n) :
    Calls Try.prog 50 #[.pointer (some ⟨p, 0, none⟩), .int .i64 n] w fun e w' => e = .returned (.tuple #[.slice none 0 0, .int .i64 2]) ∧ ∃ m, w' = w.drewN m := by
  have HR := Lib.hid h
  clear h
  have h0 : ¬ n < 0 := by omega
  go_enter Try.func50, Try.ntmps50
  go_wp2_with (go_at_call 55; refine (left_any _ p g k l HR.out hk hl).mono ?_; rintro e w1 ⟨rfl, m, rfl⟩)
  go_ret2
  exact ⟨rfl, _, rfl⟩

/-- What comes back of a part of a row: its bytes, and where they lie. -/
def Part (w : World) (g : Nat) (A : Option Addr) (l : List UInt8) : Prop := Rd w A l ∧ ∀ ad, A = some ad → ad.block = g

theorem part_of {w : World} {g k n : Nat} {t : TypeId} {l : List UInt8} {A : Option Addr} (h : Blk w g t (bv l).toArray) (hA : (if l.length = k then some (⟨g, 0, none⟩ : Addr) else some ⟨g, k, none⟩) = A) (hn : k + n ≤ l.length) : Part w g A ((l.drop k).take n) := by
  subst hA
  by_cases hk : l.length = k
  · rw [if_pos hk]
    exact ⟨fun h0 => by simp at h0; omega, by simp⟩
  · rw [if_neg hk]
    refine ⟨?_, by simp⟩
    have := Rd.cut (h.rd (l := l) (by rw [List.take_of_length_le (by simp [bv_length])])) k n
    simpa using this

set_option maxHeartbeats 1000000 in
theorem take_ok (w : World) (p g k n : Nat) (l : List UInt8) (h : Rdr w p g l k) (hl : l.length ≤ 1000000000) (hn : k + n ≤ l.length) :
    Calls Try.prog 50 #[.pointer (some ⟨p, 0, none⟩), .int .i64 (n : Int)] w fun e w' =>
      ∃ A c, e = .returned (.tuple #[.slice A n c, .int .i64 0]) ∧ Part w' g A ((l.drop k).take n) ∧ Rdr w' p g l (k + n) ∧ Fr [p] w w' := by
  have HR := Lib.hid h
  have h0 := h.1.cell 0
  have h1 := h.1.cell 1
  have h2 := h.1.frozen 1
  simp at h0 h1
  clear h
  have hk : k ≤ l.length := by omega
  have h3 : ¬ (n : Int) < 0 := by omega
  go_enter Try.func50, Try.ntmps50
  go_wp2_with (go_at_call 55; refine (left_any _ p g k l HR.out hk hl).mono ?_; rintro e w1 ⟨rfl, m, rfl⟩)
  go_quiet (fail)
  simp only [Nat.add_sub_cancel_left]
  generalize hA : (if l.length = k then some (⟨g, 0, none⟩ : Addr) else some ⟨g, k, none⟩) = A
  have HA := Lib.hid hA
  clear hA
  go_wp2
  go_ret2
  have hf : Fr [p] w ((w.setCell ⟨p, 1, none⟩ (.int .i64 ((k : Int) + n))).drewN (m + nq)) := ((Fr.refl [p] w).setCell (by simp) _).drewN _
  have hp : g ∉ [p] := by simp [HR.out.ne]
  have hg := HR.out.2.fr hf hp
  refine ⟨A, _, rfl, part_of hg HA.out hn, ⟨?_, hg⟩, hf⟩
  have h4 := HR.out.1.put 1 (.int .i64 ((k : Int) + n))
  simp at h4
  exact h4

set_option maxHeartbeats 400000 in
theorem rbytes_neg (w : World) (p : Nat) (n : Int) (hn : n < 0) :
    Calls Try.prog 39 #[.pointer (some ⟨p, 0, none⟩), .int .i64 n] w fun e w' => e = .returned (.tuple #[.slice none 0 0, .int .i64 1]) ∧ w = w' := by
  go_enter Try.func39, Try.ntmps39
  go_wp2_with (go_at_call 50; refine (take_neg _ p n hn).mono ?_; rintro e w1 ⟨rfl, rfl⟩)
  go_ret2
  exact ⟨rfl, rfl⟩

set_option maxHeartbeats 400000 in
theorem rbytes_short (w : World) (p g k : Nat) (l : List UInt8) (n : Int) (h : Rdr w p g l k) (hk : k ≤ l.length) (hl : l.length ≤ 1000000000) (hn : (l.length : Int) - k < n) :
    Calls Try.prog 39 #[.pointer (some ⟨p, 0, none⟩), .int .i64 n] w fun e w' => e = .returned (.tuple #[.slice none 0 0, .int .i64 2]) ∧ ∃ m, w' = w.drewN m := by
  have HR := Lib.hid h
  clear h
  go_enter Try.func39, Try.ntmps39
  go_wp2_with (go_at_call 50; refine (take_short _ p g k l n HR.out hk hl hn).mono ?_; rintro e w1 ⟨rfl, m, rfl⟩)
  go_ret2
  exact ⟨rfl, _, rfl⟩

set_option maxHeartbeats 1000000 in
theorem rbytes_ok (w : World) (p g k n : Nat) (l : List UInt8) (h : Rdr w p g l k) (hl : l.length ≤ 1000000000) (hn : k + n ≤ l.length) :
    Calls Try.prog 39 #[.pointer (some ⟨p, 0, none⟩), .int .i64 (n : Int)] w fun e w' =>
      ∃ g', e = .returned (.tuple #[.slice (some ⟨g', 0, none⟩) n n, .int .i64 0]) ∧ w.heap.size ≤ g' ∧ Blk w' g' 5 (bv ((l.drop k).take n)).toArray ∧ Rdr w' p g l (k + n) ∧ Fr [p] w w' := by
  have HR := Lib.hid h
  clear h
  have hm : ((l.drop k).take n).length = n := by simp; omega
  have HM := Lib.hid hm
  clear hm
  have hn' : n ≤ 1000000000 := by omega
  go_enter Try.func39, Try.ntmps39
  go_wp2_with (first
    | (go_at_call 50; refine (take_ok _ p g k n l HR.out hl hn).mono ?_; rintro e w1 ⟨A, c, rfl, hp, hr, hf⟩; have HP := Lib.hid hp; have H1 := Lib.hid hr; have HF := Lib.hid hf; clear hp hr hf)
    | (go_at_call 48; refine (copied_any A n c _ _ HM.out HP.out.1 hn').mono ?_; rintro e w2 ⟨rfl, hb, hf⟩; have HB := Lib.hid hb; have HF2 := Lib.hid hf; clear hb hf))
  go_ret2
  exact ⟨w1.heap.size, rfl, HF.out.size, HB.out, H1.out.fr HF2.out (by simp) (by simp), HF.out.tr HF2.out.nil⟩


end Go.Proofs.Ythabiaenaicppaa
