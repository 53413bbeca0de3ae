/-
  A writer and a slice of the law's own, side by side: what each call does to both. Conditions: lengths up to 1000000000.
-/
import Derived.Test.YtgmngkhjjimelaaRef4
namespace Go.Proofs.Ytgmngkhjjimelaa
open Go.RowKit

/-- The writer at block p has the bytes l1, the slice 'want' the bytes l2; they share no block; all of it is new since w. -/
def WI (w : World) (p : Nat) (want : Value) (l1 l2 : List UInt8) (wr : World) : Prop :=
  ∃ v, Wr wr w.heap.size p v l1 ∧ Own wr w.heap.size want l2 ∧ (∀ j, v.ownBlock = some j → want.ownBlock ≠ some j) ∧ Fr [] w wr ∧ w.heap.size ≤ p

/-- Nothing has turned but blocks of the law's own that were there. -/
def Olds (w wr w2 : World) : Prop := ∃ S, Fr S wr w2 ∧ ∀ j ∈ S, w.heap.size ≤ j ∧ j < wr.heap.size

theorem WI.fr1 {w wr : World} {p : Nat} {want : Value} {l1 l2 : List UInt8} (h : WI w p want l1 l2 wr) : Fr [] w wr := by obtain ⟨_, _, _, _, hf, _⟩ := h; exact hf
theorem WI.own {w wr : World} {p : Nat} {want : Value} {l1 l2 : List UInt8} (h : WI w p want l1 l2 wr) : Own wr w.heap.size want l2 := by obtain ⟨_, _, ho, _⟩ := h; exact ho
theorem WI.fr {w wr w2 : World} {p : Nat} {want : Value} {l1 l2 : List UInt8} (h : WI w p want l1 l2 wr) (hf : Fr [] wr w2) : WI w p want l1 l2 w2 := by
  obtain ⟨v, h1, h2, h3, h4, h5⟩ := h
  exact ⟨v, h1.fr hf (by simp) (by simp), h2.fr hf (by simp), h3, h4.tr hf, h5⟩

theorem WI.wrote {w wr w2 : World} {p : Nat} {want v : Value} {l1 l2 l' : List UInt8} {e : Ending} (hw : Wr wr w.heap.size p v l1) (ho : Own wr w.heap.size want l2) (hne : ∀ j, v.ownBlock = some j → want.ownBlock ≠ some j) (hf : Fr [] w wr) (hp : w.heap.size ≤ p)
    (h : Wrote wr w.heap.size p v l' e w2) : e = .returned (.pointer (some ⟨p, 0, none⟩)) ∧ WI w p want l' l2 w2 ∧ Olds w wr w2 := by
  obtain ⟨he, v', h1, h2, h3⟩ := h
  have hS : ∀ j ∈ foot p v, w.heap.size ≤ j ∧ j < wr.heap.size := by
    intro j hj
    simp only [foot, List.mem_cons, Option.mem_toList] at hj
    rcases hj with rfl | hj
    · exact ⟨hp, hw.1.lt⟩
    · exact hw.2.lt j hj
  refine ⟨he, ⟨v', h1, ho.fr h2 ?_, ?_, hf.trans h2 (fun j hj => .inr (hS j hj).1), hp⟩, foot p v, h2, hS⟩
  · intro k hk hm
    simp only [foot, List.mem_cons, Option.mem_toList] at hm
    rcases hm with rfl | hm
    · exact ho.other hw.1 (by decide) hk
    · exact hne k hm hk
  · intro j hj
    rcases h3 with h3 | ⟨k, hk, hle⟩
    · exact hne j (by rw [← h3]; exact hj)
    · rw [hj] at hk; cases hk
      intro e
      have := (ho.lt j e).2
      omega

theorem WI.app {w w2 w3 : World} {p : Nat} {want want' : Value} {l1 l2 news : List UInt8} (h : WI w p want l1 l2 w2) (ho : Own w3 w.heap.size want' (l2 ++ news)) (hf : Fr want.ownBlock.toList w2 w3) (hl : Lies w2 want want') : WI w p want' l1 (l2 ++ news) w3 := by
  obtain ⟨v, h1, h2, h3, h4, h5⟩ := h
  refine ⟨v, h1.fr hf ?_ ?_, ho, ?_, h4.trans hf (fun j hj => .inr (h2.lt j (by simpa using hj)).1), h5⟩
  · have := h2.other h1.1 (by decide)
    simpa using this
  · intro k hk hm
    exact h3 k hk (by simpa using hm)
  · intro j hj
    exact hl.other (h3 j hj) (h1.2.lt j hj).2

theorem Olds.of_own {w w2 w3 : World} {B : Nat} {want : Value} {l : List UInt8} (h : Own w2 w.heap.size want l) (hf : Fr want.ownBlock.toList w2 w3) (_hB : B = B) : Olds w w2 w3 := ⟨_, hf, fun j hj => h.lt j (by simpa using hj)⟩

section
variable {w wr : World} {p : Nat} {want : Value} {l1 l2 : List UInt8}
theorem wi_byte (z : Int) (x : UInt8) (hz : z = (x.toNat : Int)) (h : WI w p want l1 l2 wr) (hl : l1.length ≤ 1000000000) :
    Calls Try.prog 23 #[.pointer (some ⟨p, 0, none⟩), .int .u8 z] wr fun e w2 => e = .returned (.pointer (some ⟨p, 0, none⟩)) ∧ WI w p want (l1 ++ [x]) l2 w2 ∧ Olds w wr w2 := by
  obtain ⟨v, h1, h2, h3, h4, h5⟩ := h
  exact (wbyteZ wr _ p v l1 z x hz h1 h4.size hl).mono fun _ _ hw => WI.wrote h1 h2 h3 h4 h5 hw
theorem wi_big (u : Nat) (n : Int) (h : WI w p want l1 l2 wr) (hl : l1.length ≤ 1000000000) :
    Calls Try.prog 20 #[.pointer (some ⟨p, 0, none⟩), .int .u64 (u : Int), .int .i64 n] wr fun e w2 => e = .returned (.pointer (some ⟨p, 0, none⟩)) ∧ WI w p want (l1 ++ putB u (cnt n)) l2 w2 ∧ Olds w wr w2 := by
  obtain ⟨v, h1, h2, h3, h4, h5⟩ := h
  exact (wbig wr _ p v l1 u n h1 h4.size hl).mono fun _ _ hw => WI.wrote h1 h2 h3 h4 h5 hw
theorem wi_little (u : Nat) (n : Int) (h : WI w p want l1 l2 wr) (hl : l1.length ≤ 1000000000) :
    Calls Try.prog 22 #[.pointer (some ⟨p, 0, none⟩), .int .u64 (u : Int), .int .i64 n] wr fun e w2 => e = .returned (.pointer (some ⟨p, 0, none⟩)) ∧ WI w p want (l1 ++ putL u (cnt n)) l2 w2 ∧ Olds w wr w2 := by
  obtain ⟨v, h1, h2, h3, h4, h5⟩ := h
  exact (wlittle wr _ p v l1 u n h1 h4.size hl).mono fun _ _ hw => WI.wrote h1 h2 h3 h4 h5 hw
theorem wi_bytes (A : Option Addr) (n c : Nat) (m : List UInt8) (h : WI w p want l1 l2 wr) (hl : l1.length + n ≤ 1000000000) (hm : m.length = n) (hr : Rd wr A m) (hc : A = none → c = 0) :
    Calls Try.prog 19 #[.pointer (some ⟨p, 0, none⟩), .slice A n c] wr fun e w2 => e = .returned (.pointer (some ⟨p, 0, none⟩)) ∧ WI w p want (l1 ++ m) l2 w2 ∧ Olds w wr w2 := by
  obtain ⟨v, h1, h2, h3, h4, h5⟩ := h
  exact (wbytes wr _ p v l1 A n c m h1 h4.size hl hm hr hc).mono fun _ _ hw => WI.wrote h1 h2 h3 h4 h5 hw
theorem wi_len (k : Nat) (hk : l1.length = k) (h : WI w p want l1 l2 wr) : Calls Try.prog 24 #[.pointer (some ⟨p, 0, none⟩)] wr fun e w2 => e = .returned (.int .i64 (k : Int)) ∧ wr = w2 := by
  subst hk
  obtain ⟨v, h1, _⟩ := h
  exact wlen wr _ p v l1 h1
theorem wi_done (k : Nat) (hk : l1.length = k) (h : WI w p want l1 l2 wr) (hl : k ≤ 1000000000) : Calls Try.prog 25 #[.pointer (some ⟨p, 0, none⟩)] wr fun e w2 => e = .returned (.slice (some ⟨wr.heap.size, 0, none⟩) k k) ∧ Blk w2 wr.heap.size 5 (bv l1).toArray ∧ Fr [] wr w2 := by
  obtain ⟨v, h1, _⟩ := h
  exact wdoneN wr _ p v l1 k hk h1 hl
end

/-- Bytes of a slice that came after wr: what was written over lay there already. -/
theorem wi_bytes2 {w wr w1 : World} {p : Nat} {want : Value} {l1 l2 : List UInt8} (A : Option Addr) (n c : Nat) (m : List UInt8) (h : WI w p want l1 l2 wr) (hf : Fr [] wr w1) (hl : l1.length + n ≤ 1000000000) (hm : m.length = n) (hr : Rd w1 A m) (hc : A = none → c = 0) :
    Calls Try.prog 19 #[.pointer (some ⟨p, 0, none⟩), .slice A n c] w1 fun e w2 => e = .returned (.pointer (some ⟨p, 0, none⟩)) ∧ WI w p want (l1 ++ m) l2 w2 ∧ ∃ S, Fr S w1 w2 ∧ ∀ j ∈ S, w.heap.size ≤ j ∧ j < wr.heap.size := by
  obtain ⟨v, h1, h2, h3, h4, h5⟩ := h
  have g1 := h1.fr hf (by simp) (by simp)
  refine (wbytes w1 _ p v l1 A n c m g1 (Nat.le_trans h4.size hf.size) hl hm hr hc).mono fun e w2 hw => ?_
  have hw' := hw
  obtain ⟨_, v', k1, k2, k3⟩ := hw'
  obtain ⟨r1, r2, _⟩ := WI.wrote g1 (h2.fr hf (by simp)) h3 (h4.tr hf) h5 hw
  refine ⟨r1, r2, _, k2, fun j hj => ?_⟩
  simp only [foot, List.mem_cons, Option.mem_toList] at hj
  rcases hj with rfl | hj
  · exact ⟨h5, h1.1.lt⟩
  · exact h1.2.lt j hj

/-- One of the law's puts. -/
structure PutR where
  K : Int
  N : Int
  U : Nat
  A : Option Addr
  n : Nat
  c : Nat
  l : List UInt8

/-- A put whose fields' cells begin at an address; its bytes can be read. -/
def PutAt (w : World) (b o : Nat) (r : PutR) : Prop :=
  w.cell? ⟨b, o, none⟩ = some (.int .i64 r.K) ∧ w.cell? ⟨b, o + 1, none⟩ = some (.int .i64 r.N) ∧ w.cell? ⟨b, o + 2, none⟩ = some (.int .u64 (r.U : Int)) ∧ w.cell? ⟨b, o + 3, none⟩ = some (.slice r.A r.n r.c) ∧
    Rd w r.A r.l ∧ r.l.length = r.n ∧ (r.A = none → r.c = 0) ∧ r.n ≤ r.c ∧ r.c ≤ maxLen ∧ r.U < 18446744073709551616

/-- A slice of puts that is read. -/
def RdP (w : World) (a : Option Addr) (rs : List PutR) : Prop :=
  0 < rs.length → ∃ b o, a = some ⟨b, o, none⟩ ∧ ∀ j (hj : j < rs.length), PutAt w b (o + j * 4) rs[j]

end Go.Proofs.Ytgmngkhjjimelaa
