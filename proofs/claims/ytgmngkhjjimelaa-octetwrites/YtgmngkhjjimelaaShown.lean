/-
  picklocklaw01.shown returns true, and turns nothing that was there.
-/
import Derived.Test.YtgmngkhjjimelaaApi
namespace Go.Proofs.Ytgmngkhjjimelaa
open Go.RowKit

/-- A writer, in a world that has grown by nothing but it. -/
def WrX (w : World) (B p : Nat) (l : List UInt8) (w' : World) : Prop := ∃ v, Wr w' B p v l ∧ Fr [] w w' ∧ w.heap.size ≤ p ∧ (∀ k, v.ownBlock = some k → w.heap.size ≤ k)

theorem WrX.wrote {w w1 w2 : World} {B p : Nat} {l l' : List UInt8} {v : Value} (h : WrX w B p l w1) (hv : Wr w1 B p v l) (hv' : ∀ k, v.ownBlock = some k → w.heap.size ≤ k) {e : Ending} (hw : Wrote w1 B p v l' e w2) : WrX w B p l' w2 := by
  obtain ⟨_, _, hf, hp, _⟩ := h
  obtain ⟨_, v', h1, h2, h3⟩ := hw
  refine ⟨v', h1, hf.trans h2 ?_, hp, ?_⟩
  · intro i hi
    simp only [foot, List.mem_cons, Option.mem_toList] at hi
    rcases hi with rfl | hi
    · exact .inr hp
    · exact .inr (hv' i hi)
  · intro k hk
    rcases h3 with h3 | ⟨j, hj, hle⟩
    · exact hv' k (by rw [← h3]; exact hk)
    · rw [hk] at hj; cases hj
      have := hf.size
      omega

theorem WrX.start (w : World) (B : Nat) : WrX w B w.heap.size [] (w.alloc (.cells #[.slice none 0 0] 47)) :=
  ⟨.slice none 0 0, ⟨Blk.fresh _ _ _, Own.none_ _ _⟩, (Fr.refl [] w).alloc _, Nat.le_refl _, by simp [Value.ownBlock]⟩

theorem WrX.fr {w w1 w2 : World} {B p : Nat} {l : List UInt8} (h : WrX w B p l w1) (hf : Fr [] w1 w2) : WrX w B p l w2 := by
  obtain ⟨v, h1, h2, h3, h4⟩ := h
  exact ⟨v, h1.fr hf (by simp) (by simp), h2.tr hf, h3, h4⟩

theorem WrX.fr1 {w w1 : World} {B p : Nat} {l : List UInt8} (h : WrX w B p l w1) : Fr [] w w1 := by
  obtain ⟨_, _, h2, _⟩ := h
  exact h2

theorem xbyte {w w1 : World} {B p : Nat} {l : List UInt8} (z : Int) (x : UInt8) (hz : z = (x.toNat : Int)) (h : WrX w B p l w1) (hB : B ≤ w.heap.size) (hl : l.length ≤ 1000000000) :
    Calls Try.prog 23 #[.pointer (some ⟨p, 0, none⟩), .int .u8 z] w1 fun e w2 => e = .returned (.pointer (some ⟨p, 0, none⟩)) ∧ WrX w B p (l ++ [x]) w2 := by
  have h0 := h
  obtain ⟨v, h1, h2, h3, h4⟩ := h
  exact (wbyteZ w1 B p v l z x hz h1 (Nat.le_trans hB h2.size) hl).mono fun e w2 hw => ⟨hw.1, h0.wrote h1 h4 hw⟩
theorem xbig {w w1 : World} {B p : Nat} {l : List UInt8} (z : Int) (u : Nat) (n : Int) (hz : z = (u : Int)) (h : WrX w B p l w1) (hB : B ≤ w.heap.size) (hl : l.length ≤ 1000000000) :
    Calls Try.prog 20 #[.pointer (some ⟨p, 0, none⟩), .int .u64 z, .int .i64 n] w1 fun e w2 => e = .returned (.pointer (some ⟨p, 0, none⟩)) ∧ WrX w B p (l ++ putB u (cnt n)) w2 := by
  have h0 := h
  obtain ⟨v, h1, h2, h3, h4⟩ := h
  exact (wbigZ w1 B p v l z u n hz h1 (Nat.le_trans hB h2.size) hl).mono fun e w2 hw => ⟨hw.1, h0.wrote h1 h4 hw⟩
theorem xlittle {w w1 : World} {B p : Nat} {l : List UInt8} (z : Int) (u : Nat) (n : Int) (hz : z = (u : Int)) (h : WrX w B p l w1) (hB : B ≤ w.heap.size) (hl : l.length ≤ 1000000000) :
    Calls Try.prog 22 #[.pointer (some ⟨p, 0, none⟩), .int .u64 z, .int .i64 n] w1 fun e w2 => e = .returned (.pointer (some ⟨p, 0, none⟩)) ∧ WrX w B p (l ++ putL u (cnt n)) w2 := by
  have h0 := h
  obtain ⟨v, h1, h2, h3, h4⟩ := h
  exact (wlittleZ w1 B p v l z u n hz h1 (Nat.le_trans hB h2.size) hl).mono fun e w2 hw => ⟨hw.1, h0.wrote h1 h4 hw⟩
theorem xbytes {w w1 : World} {B p : Nat} {l : List UInt8} (A : Option Addr) (n c : Nat) (m : List UInt8) (h : WrX w B p l w1) (hB : B ≤ w.heap.size) (hl : l.length + n ≤ 1000000000) (hm : m.length = n) (hr : Rd w1 A m) (hc : A = none → c = 0) :
    Calls Try.prog 19 #[.pointer (some ⟨p, 0, none⟩), .slice A n c] w1 fun e w2 => e = .returned (.pointer (some ⟨p, 0, none⟩)) ∧ WrX w B p (l ++ m) w2 := by
  have h0 := h
  obtain ⟨v, h1, h2, h3, h4⟩ := h
  exact (wbytes w1 B p v l A n c m h1 (Nat.le_trans hB h2.size) hl hm hr hc).mono fun e w2 hw => ⟨hw.1, h0.wrote h1 h4 hw⟩

theorem xlen {w w1 : World} {B p : Nat} {l : List UInt8} (h : WrX w B p l w1) : Calls Try.prog 24 #[.pointer (some ⟨p, 0, none⟩)] w1 fun e w2 => e = .returned (.int .i64 (l.length : Int)) ∧ w1 = w2 := by
  obtain ⟨v, h1, -⟩ := h
  exact wlen w1 B p v l h1
theorem xdone {w w1 : World} {B p : Nat} {l : List UInt8} (h : WrX w B p l w1) (hl : l.length ≤ 1000000000) : Calls Try.prog 25 #[.pointer (some ⟨p, 0, none⟩)] w1 fun e w2 =>
    e = .returned (.slice (some ⟨w1.heap.size, 0, none⟩) l.length l.length) ∧ Blk w2 w1.heap.size 5 (bv l).toArray ∧ WrX w B p l w2 ∧ Fr [] w1 w2 := by
  have h0 := h
  obtain ⟨v, h1, -⟩ := h
  exact (wdone w1 B p v l h1 hl).mono fun e w2 ⟨ha, hb, hc⟩ => ⟨ha, hb, h0.fr hc, hc⟩

theorem rd_blk {w : World} {g : Nat} {l : List UInt8} (h : Blk w g 5 (bv l).toArray) : Rd w (some ⟨g, 0, none⟩) l :=
  fun _ => ⟨g, 0, rfl, h.rd (by rw [List.take_of_length_le (by simp [bv_length])])⟩

set_option maxRecDepth 100000 in
set_option maxHeartbeats 2000000 in
theorem shown_any (w : World) : Calls Try.prog 8 #[] w fun e w' => e = .returned (.bool true) ∧ Fr [] w w' := by
  have HS := Lib.hid (WrX.start w w.heap.size)
  go_enter Try.func8, Try.ntmps8
  go_wp2_with fail
  refine (xbyte 9 9 rfl HS.out (Nat.le_refl _) (by simp)).mono ?_
  rintro e w1 ⟨rfl, h1⟩
  have H1 : Hid (WrX w w.heap.size w.heap.size [9] w1) := h1
  clear h1
  go_wp2_with fail
  refine (xbig 300 300 3 rfl H1.out (Nat.le_refl _) (by simp)).mono ?_
  rintro e w2 ⟨rfl, h2⟩
  have H2 : Hid (WrX w w.heap.size w.heap.size [9, 0, 1, 44] w2) := h2
  clear h2
  go_wp2_with fail
  refine (xlittle 300 300 2 rfl H2.out (Nat.le_refl _) (by simp)).mono ?_
  rintro e w3 ⟨rfl, h3⟩
  have H3 : Hid (WrX w w.heap.size w.heap.size [9, 0, 1, 44, 44, 1] w3) := h3
  clear h3
  go_wp2_with fail
  have hb4 : Blk (w3.alloc (.cells #[.int .u8 0, .int .u8 1, .int .u8 44, .int .u8 7] 5)) w3.heap.size 5 (bv [0, 1, 44, 7]).toArray := Blk.fresh _ _ _
  refine (newReader_any _ 4 4 [0, 1, 44, 7] _ rfl (rd_blk hb4) (by decide)).mono ?_
  rintro e w4 ⟨p, rfl, h4, hp4, hf4⟩
  have HF4 : Hid (Fr [] w3 w4) := ((Fr.refl [] w3).alloc _).tr hf4
  have hp : w3.heap.size ≤ p := by simp at hp4; omega
  have H4 := Lib.hid h4
  clear h4 hp4 hf4 hb4
  go_wp2_with fail
  refine (rhighU _ p _ 0 _ 3 H4.out (by decide) (by decide)).mono ?_
  rintro e w5 ⟨rfl, h5, hf5⟩
  have HF5 : Hid (Fr [] w3 w5) := HF4.out.trans hf5 (by simpa using hp)
  have H5 : Hid (Rdr w5 p _ [0, 1, 44, 7] 3) := h5
  clear h5 hf5
  have e5 : eN [0, 1, 44, 7] 0 3 = 0 := by decide
  have e5' : be (oB (eN [0, 1, 44, 7] 0 3) [0, 1, 44, 7] 0 3) = 300 := by decide
  rw [e5', e5]
  clear e5 e5'
  go_wp2_with fail
  refine (rlowU _ p _ 3 _ 2 H5.out (by decide) (by decide)).mono ?_
  rintro e w6 ⟨rfl, h6, hf6⟩
  have HF6 : Hid (Fr [] w3 w6) := HF5.out.trans hf6 (by simpa using hp)
  have H6 : Hid (Rdr w6 p _ [0, 1, 44, 7] 3) := h6
  clear h6 hf6
  have e6 : eN [0, 1, 44, 7] 3 2 = 2 := by decide
  have e6' : le (oB (eN [0, 1, 44, 7] 3 2) [0, 1, 44, 7] 3 2) = 0 := by decide
  rw [e6', e6]
  clear e6 e6'
  go_wp2_with fail
  refine (rbyteU _ p _ 3 _ H6.out (by decide) (by decide)).mono ?_
  rintro e w7 ⟨rfl, h7, hf7⟩
  have HF7 : Hid (Fr [] w3 w7) := HF6.out.trans hf7 (by simpa using hp)
  have H7 : Hid (Rdr w7 p _ [0, 1, 44, 7] 4) := h7
  clear h7 hf7
  have e7 : eB [0, 1, 44, 7] 3 1 = 0 := by decide
  have e7' : ((oB (eB [0, 1, 44, 7] 3 1) [0, 1, 44, 7] 3 1).headD 0).toNat = 7 := by decide
  rw [e7', e7]
  clear e7 e7'
  go_wp2_with fail
  refine (xdone (H3.out.fr HF7.out) (by decide)).mono ?_
  rintro e w8 ⟨rfl, hb8, h8, hf8⟩
  have HF8 : Hid (Fr [] w3 w8) := HF7.out.tr hf8
  have H8 := Lib.hid (H7.out.fr hf8 (by simp) (by simp))
  have HW8 := Lib.hid h8
  have hconv : Sem.run Try.prog (convert 22 9 (.slice (some ⟨w7.heap.size, 0, none⟩) 6 6)) w8 = .ok (.string ⟨#[9, 0, 1, 44, 44, 1]⟩) w8 :=
    run_str 22 9 5 (l := [9, 0, 1, 44, 44, 1]) Try.underlying22 Try.underlying5 Try.underlying9 (rd_blk hb8)
  clear hb8 h8 hf8
  go_wp2_with fail
  refine (xlen HW8.out).mono ?_
  rintro e w9 ⟨rfl, rfl⟩
  go_wp2_with fail
  refine (at_any _ p _ 4 _ H8.out).mono ?_
  rintro e w9 ⟨rfl, rfl⟩
  go_wp2_with fail
  refine (left_any _ p _ 4 _ H8.out (by decide) (by decide)).mono ?_
  rintro e w9 ⟨rfl, m, rfl⟩
  go_wp2
  go_ret
  obtain ⟨_, _, hf3, _⟩ := H3.out
  exact ⟨rfl, (hf3.tr HF8.out).drewN m⟩

end Go.Proofs.Ytgmngkhjjimelaa
